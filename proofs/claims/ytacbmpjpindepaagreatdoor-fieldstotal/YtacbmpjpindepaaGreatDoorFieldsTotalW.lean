/-
  The law FieldsTotal. Conditions: texts as long as a row lets them be; the tables lie as the program lays them.
-/
import Derived.Test.YtacbmpjpindepaaGreatDoorTotA
import Derived.BigQuiet
import Derived.Test.YtacbmpjpindepaaGreatDoorRdn
namespace Go.Proofs.YtacbmpjpindepaaGreatDoor
open Go.RowKit Go.Shelf
attribute [local go_sem] Oper.semAt_some
set_option linter.unusedVariables false
set_option linter.unusedSimpArgs false
def tx3 (A B C : ByteArray) (i : Nat) : ByteArray := if i = 0 then A else if i = 1 then B else C
theorem build_str3 (w : World) (a b c : ByteArray) : (Instr.buildSlice 41 3 #[(0, .string a), (1, .string b), (2, .string c)]).run Tryz.prog w = .ok (.slice (some ⟨w.heap.size, 0, none⟩) 3 3) (w.alloc (.cells #[.string a, .string b, .string c] 9)) := by
  obtain ⟨i0, hi, hz0, hz1, _⟩ := info_parts (show (Tryz.prog.info? 9).map (fun i => (i.zero, i.size, i.bytes)) = some (some (.string ⟨#[]⟩), 1, 16) by kernel_rfl)
  refine run_buildSlice w 41 9 3 _ #[.string a, .string b, .string c] i0 (.string ⟨#[]⟩) Tryz.underlying41 hi hz0 (by rw [hz1]; decide) (by rw [hz1]; decide) ?_
  rw [hz1]
  kernel_rfl
theorem eql_tf (W : World) : (binOp .eql 4 (.bool true) (.bool false)).run Tryz.prog W = .ok (.bool false) W := by kernel_rfl
theorem eql_ft (W : World) : (binOp .eql 4 (.bool false) (.bool true)).run Tryz.prog W = .ok (.bool false) W := by kernel_rfl
set_option maxRecDepth 100000 in
set_option maxHeartbeats 16000000 in
theorem fieldsTotal_any (A B C : ByteArray) (w : World) (hA : A.size ≤ 140737488351232) (hB : B.size ≤ 140737488351232) (hC : C.size ≤ 140737488351232) (hw : RwT w) (hp : Pow w) :
    Calls Tryz.prog 6 #[.string A, .string B, .string C] w fun e w' => e = .returned (.bool true) ∧ Below w.heap.size w w' := by
  have HEX := Hid.mk' (examples_any w hw hp)
  have HSZ : Hid (∀ i, (tx3 A B C i).size ≤ 281474976710656) := Hid.mk' (fun i => by unfold tx3; split; omega; split; omega; omega)
  clear hw hp hA hB hC
  go_enter Tryz.func6, Tryz.ntmps6
  go_wp2_with fail
  refine HEX.out.mono ?_
  rintro e w1 ⟨rfl, hb1⟩
  have hbs := build_str3 w1 A B C
  have HA : Hid (Below w1.heap.size w1 (w1.alloc (.cells #[.string A, .string B, .string C] 9))) := Hid.mk' ((Below.refl _ w1).alloc (Nat.le_refl _) _)
  have HN := Hid.mk' (heap_alloc_new w1 (.cells #[.string A, .string B, .string C] 9))
  have HB1 := Hid.mk' hb1
  clear hb1 HEX
  go_wp2_with fail
  generalize w1.alloc (.cells #[.string A, .string B, .string C] 9) = w2 at HA HN ⊢
  obtain ⟨g, hg⟩ : ∃ g, w1.heap.size = g := ⟨_, rfl⟩
  rw [hg] at HN ⊢
  have HCL : Hid (∀ i, i < 3 → ∀ Z, Below w2.heap.size w2 Z → Z.cell? ⟨g, i, none⟩ = some (.string (tx3 A B C i))) := Hid.mk' (fun i hi Z hZ => by
    have h1 := (hZ.block g (Array.getElem?_eq_some_iff.1 HN.out).1).trans HN.out
    rcases (show i = 0 ∨ i = 1 ∨ i = 2 by omega) with rfl | rfl | rfl <;> simp [World.cell?, h1, tx3])
  have HB2 : Hid (Below w.heap.size w w2) := Hid.mk' (bel_up HB1.out HA.out)
  clear hbs HA HN HB1 hg
  generalize tx3 A B C = tx at HCL HSZ
  go_loopw [9] (fun iv wr => ∃ i : Nat, iv = .int .i64 (i : Int) ∧ i ≤ 3 ∧ Hid (Below w2.heap.size w2 wr)) (fun iv _ => 3 - (intOf iv).toNat)
  case atStart => exact ⟨0, by simp, by omega, Below.refl _ _⟩
  case round =>
    obtain ⟨i, rfl, hi, HI⟩ := hrel
    rename World => wi
    by_cases hi3 : i < 3
    · have hiI : (i : Int) < 3 := by omega
      go_wp2_with fail
      go_loopw [10] (fun kv wr => ∃ k : Nat, kv = .int .i64 (k : Int) ∧ k ≤ 3 ∧ Hid (Below w2.heap.size w2 wr)) (fun kv _ => 3 - (intOf kv).toNat)
      case atStart => exact ⟨0, by simp, by omega, HI⟩
      case round =>
        obtain ⟨k, rfl, hk, HK⟩ := hrel
        rename World => wk
        clear HI
        by_cases hk3 : k < 3
        · have hkI : (k : Int) < 3 := by omega
          obtain ⟨X, hX⟩ : ∃ X, tx i = X := ⟨_, rfl⟩
          obtain ⟨Y, hY⟩ : ∃ Y, tx k = Y := ⟨_, rfl⟩
          have HCX : Hid (∀ Z, Below w2.heap.size w2 Z → Z.cell? ⟨g, i, none⟩ = some (.string X)) := Hid.mk' (by rw [← hX]; exact HCL.out i hi3)
          have HCY : Hid (∀ Z, Below w2.heap.size w2 Z → Z.cell? ⟨g, k, none⟩ = some (.string Y)) := Hid.mk' (by rw [← hY]; exact HCL.out k hk3)
          have HSX : Hid (X.size ≤ 281474976710656 ∧ Y.size ≤ 281474976710656) := Hid.mk' ⟨by rw [← hX]; exact HSZ.out i, by rw [← hY]; exact HSZ.out k⟩
          have HLX := Hid.mk' (fun Z => less_fl X Y Z HSX.out.1 HSX.out.2)
          have HLY := Hid.mk' (fun Z => less_fl Y X Z HSX.out.2 HSX.out.1)
          clear hX hY
          have HKK := Hid.mk' HK.out
          have x0 := HCX.out wk HK.out
          have y0 := HCY.out wk HK.out
          obtain ⟨x, hx⟩ : ∃ x, leF (Sums.bl X) (Sums.bl Y) = x := ⟨_, rfl⟩
          obtain ⟨y, hy⟩ : ∃ y, leF (Sums.bl Y) (Sums.bl X) = y := ⟨_, rfl⟩
          rw [hx] at HLX
          rw [hy] at HLY
          have HXY := Hid.mk' (And.intro hx hy)
          clear hx hy HK
          go_upto_region 10 with fail
          go_cut [11] (fun v wc => v = .bool x ∧ Hid (Below w2.heap.size w2 wc))
          case first =>
            go_region_with (go_at_call 25; refine (HLX.out _).mono ?_; rintro e w5 ⟨rfl, hb5⟩; have HB5 : Hid (Below w2.heap.size w2 w5) := (Hid.mk' (by exact bel_up (HKK.out.drewN' 1) hb5)); clear hb5 HLX)
            all_goals
              go_wp2_with fail
              go_meet
              exact ⟨rfl, HB5⟩
          case rest =>
            obtain ⟨rfl, hc⟩ := hcut
            have HB5 := Hid.mk' hc.out
            rename World => w5
            clear hc HKK x0 y0
            have x5 := HCX.out w5 HB5.out
            have y5 := HCY.out w5 HB5.out
            go_upto_region 11 with fail
            go_cut [12] (fun v wc => v = .bool y ∧ Hid (Below w2.heap.size w2 wc))
            case first =>
              go_region_with (go_at_call 25; refine (HLY.out _).mono ?_; rintro e w6 ⟨rfl, hb6⟩; have HB6 : Hid (Below w2.heap.size w2 w6) := (Hid.mk' (by exact bel_up (HB5.out.drewN' 1) hb6)); clear hb6 HLY)
              all_goals
                go_wp2_with fail
                go_meet
                exact ⟨rfl, HB6⟩
            case rest =>
              obtain ⟨rfl, hc⟩ := hcut
              have HB7 := Hid.mk' hc.out
              rename World => w6
              clear hc HB5 x5 y5 HLX HLY
              have x6 := HCX.out w6 HB7.out
              have y6 := HCY.out w6 HB7.out
              by_cases hXY : X.toList = Y.toList
              · obtain rfl : X = Y := ByteArray.ext (by rw [ByteArray.toList_eq, ByteArray.toList_eq] at hXY; exact Array.toList_inj.1 hXY)
                obtain rfl : x = false := by rw [← HXY.out.1]; exact le_irr _
                obtain rfl : y = false := by rw [← HXY.out.2]; exact le_irr _
                clear hXY
                go_wp2_with fail
                go_quiet (fail)
                clear x6 y6
                have HB8 : Hid (Below w2.heap.size w2 (w6.drewN nq)) := Hid.mk' (HB7.out.drewN' nq)
                generalize w6.drewN nq = w8 at HB8 ⊢
                go_wp2_with fail
                go_loopw [13] (fun mv wr => ∃ m : Nat, mv = .int .i64 (m : Int) ∧ m ≤ 3 ∧ Hid (Below w2.heap.size w2 wr)) (fun mv _ => 3 - (intOf mv).toNat)
                case atStart => exact ⟨0, by simp, by omega, HB8⟩
                case round =>
                  obtain ⟨m, rfl, hm, HM⟩ := hrel
                  rename World => wm
                  clear HB8
                  by_cases hm3 : m < 3
                  · have hmI : (m : Int) < 3 := by omega
                    go_wp2_with fail
                    go_quiet (fail)
                    have HM1 : Hid (Below w2.heap.size w2 (wm.drewN nq)) := Hid.mk' (HM.out.drewN' nq)
                    generalize wm.drewN nq = w9 at HM1 ⊢
                    go_wp2_with fail
                    go_roundw
                    case rel => exact ⟨m + 1, by simp, by omega, HM1⟩
                    case measure => simp [intOf]; omega
                  · obtain rfl : m = 3 := by omega
                    go_wp2_with fail
                    go_roundw
                    case rel => exact ⟨k + 1, by simp, by omega, HM⟩
                    case measure => simp [intOf]; omega
              · have hXY2 : (X.toList == Y.toList) = false := beq_eq_false_iff_ne.2 hXY
                have hxy : x = !y := by
                  rw [← HXY.out.1, ← HXY.out.2]
                  exact le_tot _ _ (fun e => hXY (by rw [Sums.bl_inj e]))
                subst hxy
                have b1 := eql_tf
                have b2 := eql_ft
                have b3 : decide (X.toList = Y.toList) = false := decide_eq_false hXY
                have b4 : (X.toList != Y.toList) = true := by rw [bne, hXY2]; rfl
                cases y
                · have HXY1 : Hid (leF (Sums.bl X) (Sums.bl Y) = true ∧ leF (Sums.bl Y) (Sums.bl X) = false) := HXY
                  simp only [Bool.not_false]
                  go_wp2_with fail
                  go_quiet (fail)
                  clear x6 y6 hXY hXY2
                  have HB8 : Hid (Below w2.heap.size w2 (w6.drewN nq)) := Hid.mk' (HB7.out.drewN' nq)
                  generalize w6.drewN nq = w8 at HB8 ⊢
                  go_wp2_with fail
                  go_loopw [13] (fun mv wr => ∃ m : Nat, mv = .int .i64 (m : Int) ∧ m ≤ 3 ∧ Hid (Below w2.heap.size w2 wr)) (fun mv _ => 3 - (intOf mv).toNat)
                  case atStart => exact ⟨0, by simp, by omega, HB8⟩
                  case round =>
                    obtain ⟨m, rfl, hm, HM⟩ := hrel
                    rename World => wm
                    clear HB8
                    by_cases hm3 : m < 3
                    · have hmI : (m : Int) < 3 := by omega
                      obtain ⟨Z, hZ⟩ : ∃ Z, tx m = Z := ⟨_, rfl⟩
                      have HCZ : Hid (∀ V, Below w2.heap.size w2 V → V.cell? ⟨g, m, none⟩ = some (.string Z)) := Hid.mk' (by rw [← hZ]; exact HCL.out m hm3)
                      have HSZZ : Hid (Z.size ≤ 281474976710656) := Hid.mk' (by rw [← hZ]; exact HSZ.out m)
                      obtain ⟨b1, hb1⟩ : ∃ b1, leF (Sums.bl Y) (Sums.bl Z) = b1 := ⟨_, rfl⟩
                      have HLA := Hid.mk' (fun V => less_fl Y Z V HSX.out.2 HSZZ.out)
                      rw [hb1] at HLA
                      have HTR : Hid (b1 = true → leF (Sums.bl X) (Sums.bl Z) = true) := Hid.mk' (fun e => le_tr _ _ _ HXY.out.1 (hb1.trans e))
                      clear hZ hb1
                      have z0 := HCZ.out wm HM.out
                      have y0 := HCY.out wm HM.out
                      have HM2 := Hid.mk' HM.out
                      cases b1
                      · go_wp2_with fail
                        refine (wpIn_wide (n := 6)).1 ?_
                        refine region_done (by kernel_rfl) (fun kz => (#[.bool true, .bool true, .slice (some ⟨g, 0, none⟩) 3 3, .int .i64 (k : Int), .pointer (some ⟨g, k, none⟩), .string Y, .slice (some ⟨g, 0, none⟩) 3 3, .int .i64 (m : Int), .pointer (some ⟨g, m, none⟩), .string Z, .bool false, .bool false, .bool false, undef, undef, undef, undef, undef, undef, undef, undef, undef, undef, .bool false] : Array Value).getD kz undef) (fun u => { tmps := #[.string A, .string B, .string C, undef, undef, undef, u6, .bool true, .slice (some ⟨g, 0, none⟩) 3 3, .int .i64 (i : Int), .int .i64 (k : Int), .bool true, .bool false, .int .i64 (m : Int), .bool true, .string A, .string B, .string C, .slice (some ⟨g, 0, none⟩) 3 3, .int .i64 (i : Int), .bool true, u21, u22, u23, u24, u25, u26, u27, u28, u29, u30, u31, u32, u33, u34, u35, u36, u37, u38, u39, u40, u41, u42, u43, u44, .slice (some ⟨g, 0, none⟩) 3 3, .int .i64 (i : Int), .pointer (some ⟨g, i, none⟩), .string X, .slice (some ⟨g, 0, none⟩) 3 3, .int .i64 (k : Int), .pointer (some ⟨g, k, none⟩), .string Y, .bool false, .bool false, undef, undef, undef, undef, .bool false, .bool false, .slice (some ⟨g, 0, none⟩) 3 3, .int .i64 (i : Int), .pointer (some ⟨g, i, none⟩), .string X, .slice (some ⟨g, 0, none⟩) 3 3, .int .i64 (k : Int), .pointer (some ⟨g, k, none⟩), .string Y, .bool true, .bool true, .bool true, .bool false, .bool false, .bool false, .bool false, .int .i64 (m : Int), .bool true, u78, u79, u 0, u 1, u 2, u 3, u 4, u 5, u 6, u 7, u 8, u 9, u 10, u 11, u 12, u 13, u 14, u 15, u 16, u 17, u 18, u 19, u 20, u 21, u 22, u 23, undef], defers := [] }) (fun kz => (#[u80, u81, u82, u83, u84, u85, u86, u87, u88, u89, u90, u91, u92, u93, u94, u95, u96, u97, u98, u99, u100, u101, u102, u103] : Array Value).getD kz undef) _ (fun _ V => Below w2.heap.size w2 V) (fun L' hL => HM2.out.drewN' 1) (deps_of' (by kernel_rfl)) ?_ ?_ ?_
                        · intro f1 f2 hfg
                          simp only [hfg 0 (by decide), hfg 1 (by decide), hfg 2 (by decide), hfg 3 (by decide), hfg 4 (by decide), hfg 5 (by decide), hfg 6 (by decide), hfg 7 (by decide), hfg 8 (by decide), hfg 9 (by decide), hfg 10 (by decide), hfg 11 (by decide), hfg 12 (by decide), hfg 13 (by decide), hfg 14 (by decide), hfg 15 (by decide), hfg 16 (by decide), hfg 17 (by decide), hfg 18 (by decide), hfg 19 (by decide), hfg 20 (by decide), hfg 21 (by decide), hfg 22 (by decide), hfg 23 (by decide)]
                        · intro L' V hS i0 hi0 hL o ho hdone u hdeps KK hKK
                          have hlt : i0 < 24 := hi0
                          have hnx : ∀ V2, Below w2.heap.size w2 V2 → ∀ L2 : Nat → Bool, (∀ k, L2 k = if k = i0 then true else L' k) → Below w2.heap.size w2 V2 := fun V2 h _ _ => h
                          have cx := HCX.out V hS
                          have cy := HCY.out V hS
                          have cz := HCZ.out V hS
                          rcases (show i0 = 0 ∨ i0 = 1 ∨ i0 = 2 ∨ i0 = 3 ∨ i0 = 4 ∨ i0 = 5 ∨ i0 = 6 ∨ i0 = 7 ∨ i0 = 8 ∨ i0 = 9 ∨ i0 = 10 ∨ i0 = 11 ∨ i0 = 12 ∨ i0 = 13 ∨ i0 = 14 ∨ i0 = 15 ∨ i0 = 16 ∨ i0 = 17 ∨ i0 = 18 ∨ i0 = 19 ∨ i0 = 20 ∨ i0 = 21 ∨ i0 = 22 ∨ i0 = 23 by omega) with rfl | rfl | rfl | rfl | rfl | rfl | rfl | rfl | rfl | rfl | rfl | rfl | rfl | rfl | rfl | rfl | rfl | rfl | rfl | rfl | rfl | rfl | rfl | rfl
                          case inr.inr.inr.inr.inr.inr.inr.inr.inr.inr.inl =>
                            simp at ho; subst ho; simp [Region.binds] at hdeps
                            simp [wpOpIn, Region.wanted, yielded, Oper.wpIn, Oper.semAt_eq, execOp, Oper.uponIn, go_sem, hdeps]
                            refine ⟨trivial, ?_⟩
                            refine CallsIn.mono (callsIn_wide.2 (HLA.out V)) ?_
                            rintro e V2 ⟨rfl, hV2⟩
                            have hKX := hKK V2 (hnx V2 (bel_up hS hV2))
                            first | exact hKX | (simp [upd, hdeps] at hKX ⊢; exact hKX)
                          all_goals (have hKX := hKK V (hnx V hS); simp at ho; subst ho; simp [Region.binds] at hdeps; simp [wpOpIn, Region.wanted, yielded, Oper.wpIn, Oper.semAt_eq, execOp, Oper.uponIn, go_sem, hdeps, cx, cy, cz, hiI, hkI, hmI, hi3, hk3, hm3]; first | exact hKX | (simp [upd, hdeps] at hKX; exact hKX) | (simp [upd, hdeps] at hKX; exact ⟨trivial, hKX⟩) | (simp [upd, hdeps] at hKX ⊢; exact hKX))
                        · intro L' V hall hS
                          have HB6 := Hid.mk' hS
                          clear hS hall
                          go_wp2_with fail
                          go_roundw
                          case rel => exact ⟨m + 1, by simp, by omega, HB6⟩
                          case measure => simp [intOf]; omega
                      · have HLB := Hid.mk' (fun V => less_fl X Z V HSX.out.1 HSZZ.out)
                        rw [HTR.out rfl] at HLB
                        go_wp2_with fail
                        refine (wpIn_wide (n := 6)).1 ?_
                        refine region_done (by kernel_rfl) (fun kz => (#[.bool true, .bool true, .slice (some ⟨g, 0, none⟩) 3 3, .int .i64 (k : Int), .pointer (some ⟨g, k, none⟩), .string Y, .slice (some ⟨g, 0, none⟩) 3 3, .int .i64 (m : Int), .pointer (some ⟨g, m, none⟩), .string Z, .bool true, .bool true, .bool true, .slice (some ⟨g, 0, none⟩) 3 3, .int .i64 (i : Int), .pointer (some ⟨g, i, none⟩), .string X, .slice (some ⟨g, 0, none⟩) 3 3, .int .i64 (m : Int), .pointer (some ⟨g, m, none⟩), .string Z, .bool true, .bool false, .bool false] : Array Value).getD kz undef) (fun u => { tmps := #[.string A, .string B, .string C, undef, undef, undef, u6, .bool true, .slice (some ⟨g, 0, none⟩) 3 3, .int .i64 (i : Int), .int .i64 (k : Int), .bool true, .bool false, .int .i64 (m : Int), .bool true, .string A, .string B, .string C, .slice (some ⟨g, 0, none⟩) 3 3, .int .i64 (i : Int), .bool true, u21, u22, u23, u24, u25, u26, u27, u28, u29, u30, u31, u32, u33, u34, u35, u36, u37, u38, u39, u40, u41, u42, u43, u44, .slice (some ⟨g, 0, none⟩) 3 3, .int .i64 (i : Int), .pointer (some ⟨g, i, none⟩), .string X, .slice (some ⟨g, 0, none⟩) 3 3, .int .i64 (k : Int), .pointer (some ⟨g, k, none⟩), .string Y, .bool false, .bool false, undef, undef, undef, undef, .bool false, .bool false, .slice (some ⟨g, 0, none⟩) 3 3, .int .i64 (i : Int), .pointer (some ⟨g, i, none⟩), .string X, .slice (some ⟨g, 0, none⟩) 3 3, .int .i64 (k : Int), .pointer (some ⟨g, k, none⟩), .string Y, .bool true, .bool true, .bool true, .bool false, .bool false, .bool false, .bool false, .int .i64 (m : Int), .bool true, u78, u79, u 0, u 1, u 2, u 3, u 4, u 5, u 6, u 7, u 8, u 9, u 10, u 11, u 12, u 13, u 14, u 15, u 16, u 17, u 18, u 19, u 20, u 21, u 22, u 23, undef], defers := [] }) (fun kz => (#[u80, u81, u82, u83, u84, u85, u86, u87, u88, u89, u90, u91, u92, u93, u94, u95, u96, u97, u98, u99, u100, u101, u102, u103] : Array Value).getD kz undef) _ (fun _ V => Below w2.heap.size w2 V) (fun L' hL => HM2.out.drewN' 1) (deps_of' (by kernel_rfl)) ?_ ?_ ?_
                        · intro f1 f2 hfg
                          simp only [hfg 0 (by decide), hfg 1 (by decide), hfg 2 (by decide), hfg 3 (by decide), hfg 4 (by decide), hfg 5 (by decide), hfg 6 (by decide), hfg 7 (by decide), hfg 8 (by decide), hfg 9 (by decide), hfg 10 (by decide), hfg 11 (by decide), hfg 12 (by decide), hfg 13 (by decide), hfg 14 (by decide), hfg 15 (by decide), hfg 16 (by decide), hfg 17 (by decide), hfg 18 (by decide), hfg 19 (by decide), hfg 20 (by decide), hfg 21 (by decide), hfg 22 (by decide), hfg 23 (by decide)]
                        · intro L' V hS i0 hi0 hL o ho hdone u hdeps KK hKK
                          have hlt : i0 < 24 := hi0
                          have hnx : ∀ V2, Below w2.heap.size w2 V2 → ∀ L2 : Nat → Bool, (∀ k, L2 k = if k = i0 then true else L' k) → Below w2.heap.size w2 V2 := fun V2 h _ _ => h
                          have cx := HCX.out V hS
                          have cy := HCY.out V hS
                          have cz := HCZ.out V hS
                          rcases (show i0 = 0 ∨ i0 = 1 ∨ i0 = 2 ∨ i0 = 3 ∨ i0 = 4 ∨ i0 = 5 ∨ i0 = 6 ∨ i0 = 7 ∨ i0 = 8 ∨ i0 = 9 ∨ i0 = 10 ∨ i0 = 11 ∨ i0 = 12 ∨ i0 = 13 ∨ i0 = 14 ∨ i0 = 15 ∨ i0 = 16 ∨ i0 = 17 ∨ i0 = 18 ∨ i0 = 19 ∨ i0 = 20 ∨ i0 = 21 ∨ i0 = 22 ∨ i0 = 23 by omega) with rfl | rfl | rfl | rfl | rfl | rfl | rfl | rfl | rfl | rfl | rfl | rfl | rfl | rfl | rfl | rfl | rfl | rfl | rfl | rfl | rfl | rfl | rfl | rfl
                          case inr.inr.inr.inr.inr.inr.inr.inr.inr.inr.inl =>
                            simp at ho; subst ho; simp [Region.binds] at hdeps
                            simp [wpOpIn, Region.wanted, yielded, Oper.wpIn, Oper.semAt_eq, execOp, Oper.uponIn, go_sem, hdeps]
                            refine ⟨trivial, ?_⟩
                            refine CallsIn.mono (callsIn_wide.2 (HLA.out V)) ?_
                            rintro e V2 ⟨rfl, hV2⟩
                            have hKX := hKK V2 (hnx V2 (bel_up hS hV2))
                            first | exact hKX | (simp [upd, hdeps] at hKX ⊢; exact hKX)
                          case inr.inr.inr.inr.inr.inr.inr.inr.inr.inr.inr.inr.inr.inr.inr.inr.inr.inr.inr.inr.inr.inl =>
                            simp at ho; subst ho; simp [Region.binds] at hdeps
                            simp [wpOpIn, Region.wanted, yielded, Oper.wpIn, Oper.semAt_eq, execOp, Oper.uponIn, go_sem, hdeps]
                            refine ⟨trivial, ?_⟩
                            refine CallsIn.mono (callsIn_wide.2 (HLB.out V)) ?_
                            rintro e V2 ⟨rfl, hV2⟩
                            have hKX := hKK V2 (hnx V2 (bel_up hS hV2))
                            first | exact hKX | (simp [upd, hdeps] at hKX ⊢; exact hKX)
                          all_goals (have hKX := hKK V (hnx V hS); simp at ho; subst ho; simp [Region.binds] at hdeps; simp [wpOpIn, Region.wanted, yielded, Oper.wpIn, Oper.semAt_eq, execOp, Oper.uponIn, go_sem, hdeps, cx, cy, cz, hiI, hkI, hmI, hi3, hk3, hm3]; first | exact hKX | (simp [upd, hdeps] at hKX; exact hKX) | (simp [upd, hdeps] at hKX; exact ⟨trivial, hKX⟩) | (simp [upd, hdeps] at hKX ⊢; exact hKX))
                        · intro L' V hall hS
                          have HB6 := Hid.mk' hS
                          clear hS hall
                          go_wp2_with fail
                          go_roundw
                          case rel => exact ⟨m + 1, by simp, by omega, HB6⟩
                          case measure => simp [intOf]; omega
                    · obtain rfl : m = 3 := by omega
                      go_wp2_with fail
                      go_roundw
                      case rel => exact ⟨k + 1, by simp, by omega, HM⟩
                      case measure => simp [intOf]; omega
                · simp only [Bool.not_true]
                  go_wp2_with fail
                  go_quiet (fail)
                  clear x6 y6 hXY hXY2
                  have HB8 : Hid (Below w2.heap.size w2 (w6.drewN nq)) := Hid.mk' (HB7.out.drewN' nq)
                  generalize w6.drewN nq = w8 at HB8 ⊢
                  go_wp2_with fail
                  go_loopw [13] (fun mv wr => ∃ m : Nat, mv = .int .i64 (m : Int) ∧ m ≤ 3 ∧ Hid (Below w2.heap.size w2 wr)) (fun mv _ => 3 - (intOf mv).toNat)
                  case atStart => exact ⟨0, by simp, by omega, HB8⟩
                  case round =>
                    obtain ⟨m, rfl, hm, HM⟩ := hrel
                    rename World => wm
                    clear HB8
                    by_cases hm3 : m < 3
                    · have hmI : (m : Int) < 3 := by omega
                      go_wp2_with fail
                      go_quiet (fail)
                      have HM1 : Hid (Below w2.heap.size w2 (wm.drewN nq)) := Hid.mk' (HM.out.drewN' nq)
                      generalize wm.drewN nq = w9 at HM1 ⊢
                      go_wp2_with fail
                      go_roundw
                      case rel => exact ⟨m + 1, by simp, by omega, HM1⟩
                      case measure => simp [intOf]; omega
                    · obtain rfl : m = 3 := by omega
                      go_wp2_with fail
                      go_roundw
                      case rel => exact ⟨k + 1, by simp, by omega, HM⟩
                      case measure => simp [intOf]; omega
        · obtain rfl : k = 3 := by omega
          go_wp2_with fail
          go_roundw
          case rel => exact ⟨i + 1, by simp, by omega, HK⟩
          case measure => simp [intOf]; omega
    · obtain rfl : i = 3 := by omega
      go_wp2_with fail
      go_ret
      exact ⟨rfl, bel_up HB2.out HI.out⟩
end Go.Proofs.YtacbmpjpindepaaGreatDoor
