/-
  moment: a part's count and its unit. Conditions: the table of units lies as the program lays it.
-/
import Derived.Test.YthmpokndffbkdaaDoorSpB
namespace Go.Proofs.YthmpokndffbkdaaDoor
open Go.RowKit
set_option linter.unusedVariables false
def uname (i : Nat) : List Nat := if i = 0 then [100] else if i = 1 then [104] else if i = 2 then [109] else if i = 3 then [115] else [109, 115]
def unum (i : Nat) : Nat := if i = 0 then 86400000 else if i = 1 then 3600000 else if i = 2 then 60000 else if i = 3 then 1000 else 1
/-- the table of units -/
structure UnT (w : World) : Prop where
  n0 : w.cell? ⟨0, 0, none⟩ = some (.string ⟨#[100]⟩)
  m0 : w.cell? ⟨0, 1, none⟩ = some (.int .i64 86400000)
  n1 : w.cell? ⟨0, 2, none⟩ = some (.string ⟨#[104]⟩)
  m1 : w.cell? ⟨0, 3, none⟩ = some (.int .i64 3600000)
  n2 : w.cell? ⟨0, 4, none⟩ = some (.string ⟨#[109]⟩)
  m2 : w.cell? ⟨0, 5, none⟩ = some (.int .i64 60000)
  n3 : w.cell? ⟨0, 6, none⟩ = some (.string ⟨#[115]⟩)
  m3 : w.cell? ⟨0, 7, none⟩ = some (.int .i64 1000)
  n4 : w.cell? ⟨0, 8, none⟩ = some (.string ⟨#[109, 115]⟩)
  m4 : w.cell? ⟨0, 9, none⟩ = some (.int .i64 1)
theorem UnT.below {B : Nat} {a b : World} (k : UnT a) (hb : Below B a b) (hg : 0 < B) : UnT b :=
  ⟨cell_below hb hg k.n0, cell_below hb hg k.m0, cell_below hb hg k.n1, cell_below hb hg k.m1, cell_below hb hg k.n2, cell_below hb hg k.m2, cell_below hb hg k.n3, cell_below hb hg k.m3, cell_below hb hg k.n4, cell_below hb hg k.m4⟩
theorem UnT.drewN {w : World} (k : UnT w) (n : Nat) : UnT (w.drewN n) := ⟨k.n0, k.m0, k.n1, k.m1, k.n2, k.m2, k.n3, k.m3, k.n4, k.m4⟩
theorem UnT.size {w : World} (k : UnT w) : 0 < w.heap.size := by
  have h := k.n0
  rcases Nat.lt_or_ge 0 w.heap.size with h' | h'
  · exact h'
  · simp [World.cell?, Array.getElem?_eq_none h'] at h
def cntF (l : List Nat) : Nat := if 15 < l.length ∨ hasF 48 l = true then 0 else numN l.length 0 l
set_option maxRecDepth 100000 in
set_option maxHeartbeats 1000000 in
theorem count_any (d u : ByteArray) (w : World) (hs : d.size ≤ 4000000000) : Calls Tryd.prog 40 #[.agg #[.string d, .string u]] w fun e w' => e = .returned (.int .i64 ((cntF (Sums.bl d) : Nat) : Int)) ∧ Below w.heap.size w w' := by
  have hbl := Sums.bl_length d
  have HB0 : Hid (∀ o, Below w.heap.size w (w.alloc o)) := fun o => (Below.refl w.heap.size w).alloc (Nat.le_refl _) o
  have HN := Hid.mk' (fun w => hasNought_any d w)
  have hsI : (d.size : Int) ≤ 4000000000 := by omega
  unfold cntF
  rw [hbl]
  by_cases h1 : 15 < d.size
  · rw [if_pos (.inl h1)]
    have h1I : (15 : Int) < (d.size : Int) := by omega
    have h1b : decide ((15 : Int) < (d.size : Int)) = true := by simp; omega
    clear h1
    go_enter Tryd.func40, Tryd.ntmps40
    go_wp2_with fail
    go_ret
    exact ⟨rfl, HB0.out _⟩
  · have h1I : ¬ (15 : Int) < (d.size : Int) := by omega
    have h1b : decide ((15 : Int) < (d.size : Int)) = false := by simp; omega
    cases h2 : hasF 48 (Sums.bl d)
    · rw [if_neg (by rintro (h | h); omega; cases h)]
      rw [h2] at HN
      have h15 : d.size ≤ 15 := by omega
      have HH := Hid.mk' (And.intro hbl h15)
      clear h1 h2 hbl h15
      go_enter Tryd.func40, Tryd.ntmps40
      go_wp2_with (go_at_call 63; refine (HN.out _).mono ?_; rintro e w' ⟨rfl, hw'⟩; have hw2 := hw'.symm; subst hw2)
      have T1 := tk_new (w.alloc (.cells #[.string d, .string u] 51)) d
      rw [show (w.alloc (.cells #[.string d, .string u] 51)).heap.size = w.heap.size + 1 by simp] at T1
      have B1 := Hid.mk' ((HB0.out (.cells #[.string d, .string u] 51)).alloc (by simp) (.cells #[.string d, .bool false] 72))
      generalize ((w.alloc _).alloc _) = w1 at *
      refine (number_any _ d.size _ _ _ T1 HH.out.2).mono ?_
      rintro e w2 ⟨rfl, ht, ho⟩
      have B2 := Hid.mk' (B1.out.trans (ho.below (Nat.le_succ _) B1.out.size))
      clear ht ho T1 B1
      go_wp2_with fail
      go_ret
      exact ⟨rfl, B2.out⟩
    · rw [if_pos (.inr rfl)]
      rw [h2] at HN
      clear h1 h2
      go_enter Tryd.func40, Tryd.ntmps40
      go_wp2_with (go_at_call 63; refine (HN.out _).mono ?_; rintro e w' ⟨rfl, hw'⟩; have hw2 := hw'.symm; subst hw2)
      go_ret
      exact ⟨rfl, HB0.out _⟩
def ufF (l : List Nat) : Nat → Nat → Int
  | 0, _ => -1
  | k + 1, i => if uname i = l then (i : Int) else ufF l k (i + 1)
theorem name_eq (b : List UInt8) (u : ByteArray) (l : List Nat) (h : b.map UInt8.toNat = l) : (l = Sums.bl u → (b == u.toList) = true) ∧ (¬ l = Sums.bl u → (b == u.toList) = false) := by
  constructor
  · intro e
    have : b = u.data.toList := by
      have h2 : b.map UInt8.toNat = u.data.toList.map UInt8.toNat := h.trans e
      exact List.map_inj_right (f := UInt8.toNat) (fun x y h => UInt8.toNat_inj.1 h) |>.1 h2
    rw [ByteArray.toList_eq, this]; simp
  · intro e
    have : ¬ b = u.toList := by
      intro e2
      apply e
      rw [ByteArray.toList_eq] at e2
      rw [← h, e2]
      rfl
    simpa using this
set_option maxRecDepth 100000 in
set_option maxHeartbeats 4000000 in
theorem unitFrom_any (d u : ByteArray) (p : Nat) (w : World) (hp : p ≤ 5) (hu : UnT w) : Calls Tryd.prog 41 #[.agg #[.string d, .string u], .int .i64 (p : Int)] w fun e w' => e = .returned (.int .i64 (ufF (Sums.bl u) (5 - p) p)) ∧ Below w.heap.size w w' := by
  have HB0 : Hid (∀ o, Below w.heap.size w (w.alloc o)) := fun o => (Below.refl w.heap.size w).alloc (Nat.le_refl _) o
  have HU := Hid.mk' hu
  have hz := hu.size
  obtain ⟨R, hR⟩ : ∃ R, ufF (Sums.bl u) (5 - p) p = R := ⟨_, rfl⟩
  rw [hR]
  have HR := Hid.mk' hR
  clear hu hR
  go_enter Tryd.func41, Tryd.ntmps41
  go_wp2_with fail
  have HW : Hid (UnT (w.alloc (.cells #[.string d, .string u] 51)) ∧ (w.alloc (.cells #[.string d, .string u] 51)).cell? ⟨w.heap.size, 1, none⟩ = some (.string u) ∧ Below w.heap.size w (w.alloc (.cells #[.string d, .string u] 51))) :=
    ⟨HU.out.below (HB0.out _) hz, box_cell w _ 51 0 1 _ rfl, HB0.out _⟩
  generalize (w.alloc _) = W at *
  clear HU HB0
  go_loopw [5] (fun iv wr => ∃ i k : Nat, iv = .int .i64 ((i : Nat) : Int) ∧ i + k = 5 ∧ Hid (ufF (Sums.bl u) k i = R) ∧ Hid (UnT wr ∧ wr.cell? ⟨w.heap.size, 1, none⟩ = some (.string u) ∧ Below w.heap.size w wr)) (fun iv _ => 5 - (intOf iv).toNat)
  case atStart => exact ⟨p, 5 - p, rfl, by omega, HR, HW⟩
  case round =>
    obtain ⟨i, k, rfl, hik, hR, HV⟩ := hrel
    obtain ⟨⟨n0, m0, n1, m1, n2, m2, n3, m3, n4, m4⟩, cu, bel⟩ := HV.out
    clear m0 m1 m2 m3 m4 bel
    cases k with
    | zero =>
      obtain rfl : i = 5 := by omega
      have e := hR.out
      rw [ufF] at e
      have HE := Hid.mk' e
      clear e
      go_wp2_with fail
      go_ret
      exact ⟨ret_i64 HE.out, HV.out.2.2⟩
    | succ k =>
      have e := hR.out
      rw [ufF] at e
      rcases (show i = 0 ∨ i = 1 ∨ i = 2 ∨ i = 3 ∨ i = 4 by omega) with rfl | rfl | rfl | rfl | rfl
      · have hk : k = 4 := by omega
        subst hk
        obtain ⟨y1, y2⟩ := name_eq [100] u [100] (by decide)
        rw [show uname 0 = [100] from rfl] at e
        by_cases hy : [100] = Sums.bl u
        · rw [if_pos hy] at e
          have z1 := y1 hy
          have HE := Hid.mk' e
          clear e y1 y2 hy
          go_wp2_with fail
          go_quiet (fail)
          go_wp2_with fail
          go_ret
          exact ⟨ret_i64 HE.out, HV.out.2.2.drewN' _⟩
        · rw [if_neg hy] at e
          have z1 := y2 hy
          have HE := Hid.mk' e
          clear e y1 y2 hy
          go_wp2_with fail
          go_quiet (fail)
          go_wp2_with fail
          go_roundw
          case rel => exact ⟨1, 4, by first | rfl | simp, by omega, HE, ⟨HV.out.1.drewN nq, HV.out.2.1, HV.out.2.2.drewN' nq⟩⟩
          case measure => simp [intOf]
      · have hk : k = 3 := by omega
        subst hk
        obtain ⟨y1, y2⟩ := name_eq [104] u [104] (by decide)
        rw [show uname 1 = [104] from rfl] at e
        by_cases hy : [104] = Sums.bl u
        · rw [if_pos hy] at e
          have z1 := y1 hy
          have HE := Hid.mk' e
          clear e y1 y2 hy
          go_wp2_with fail
          go_quiet (fail)
          go_wp2_with fail
          go_ret
          exact ⟨ret_i64 HE.out, HV.out.2.2.drewN' _⟩
        · rw [if_neg hy] at e
          have z1 := y2 hy
          have HE := Hid.mk' e
          clear e y1 y2 hy
          go_wp2_with fail
          go_quiet (fail)
          go_wp2_with fail
          go_roundw
          case rel => exact ⟨2, 3, by first | rfl | simp, by omega, HE, ⟨HV.out.1.drewN nq, HV.out.2.1, HV.out.2.2.drewN' nq⟩⟩
          case measure => simp [intOf]
      · have hk : k = 2 := by omega
        subst hk
        obtain ⟨y1, y2⟩ := name_eq [109] u [109] (by decide)
        rw [show uname 2 = [109] from rfl] at e
        by_cases hy : [109] = Sums.bl u
        · rw [if_pos hy] at e
          have z1 := y1 hy
          have HE := Hid.mk' e
          clear e y1 y2 hy
          go_wp2_with fail
          go_quiet (fail)
          go_wp2_with fail
          go_ret
          exact ⟨ret_i64 HE.out, HV.out.2.2.drewN' _⟩
        · rw [if_neg hy] at e
          have z1 := y2 hy
          have HE := Hid.mk' e
          clear e y1 y2 hy
          go_wp2_with fail
          go_quiet (fail)
          go_wp2_with fail
          go_roundw
          case rel => exact ⟨3, 2, by first | rfl | simp, by omega, HE, ⟨HV.out.1.drewN nq, HV.out.2.1, HV.out.2.2.drewN' nq⟩⟩
          case measure => simp [intOf]
      · have hk : k = 1 := by omega
        subst hk
        obtain ⟨y1, y2⟩ := name_eq [115] u [115] (by decide)
        rw [show uname 3 = [115] from rfl] at e
        by_cases hy : [115] = Sums.bl u
        · rw [if_pos hy] at e
          have z1 := y1 hy
          have HE := Hid.mk' e
          clear e y1 y2 hy
          go_wp2_with fail
          go_quiet (fail)
          go_wp2_with fail
          go_ret
          exact ⟨ret_i64 HE.out, HV.out.2.2.drewN' _⟩
        · rw [if_neg hy] at e
          have z1 := y2 hy
          have HE := Hid.mk' e
          clear e y1 y2 hy
          go_wp2_with fail
          go_quiet (fail)
          go_wp2_with fail
          go_roundw
          case rel => exact ⟨4, 1, by first | rfl | simp, by omega, HE, ⟨HV.out.1.drewN nq, HV.out.2.1, HV.out.2.2.drewN' nq⟩⟩
          case measure => simp [intOf]
      · have hk : k = 0 := by omega
        subst hk
        obtain ⟨y1, y2⟩ := name_eq [109, 115] u [109, 115] (by decide)
        rw [show uname 4 = [109, 115] from rfl] at e
        by_cases hy : [109, 115] = Sums.bl u
        · rw [if_pos hy] at e
          have z1 := y1 hy
          have HE := Hid.mk' e
          clear e y1 y2 hy
          go_wp2_with fail
          go_quiet (fail)
          go_wp2_with fail
          go_ret
          exact ⟨ret_i64 HE.out, HV.out.2.2.drewN' _⟩
        · rw [if_neg hy] at e
          have z1 := y2 hy
          have HE := Hid.mk' e
          clear e y1 y2 hy
          go_wp2_with fail
          go_quiet (fail)
          go_wp2_with fail
          go_roundw
          case rel => exact ⟨5, 0, by first | rfl | simp, by omega, HE, ⟨HV.out.1.drewN nq, HV.out.2.1, HV.out.2.2.drewN' nq⟩⟩
          case measure => simp [intOf]
end Go.Proofs.YthmpokndffbkdaaDoor
