/-
  What a Hash of package sums does. Conditions: as each says.
-/
import Derived.Test.YtapphnkddjchkaaDoorPut
import Derived.Deep.RegionLaw
namespace Go.Proofs.YtapphnkddjchkaaDoor
open Go.RowKit
set_option linter.unusedVariables false
set_option maxHeartbeats 400000 in
theorem begin32_any (seed : Nat) (w : World) (hq : seed < 4294967296) :
    Calls Tryd.prog 15 #[.int .u32 (seed : Int)] w fun e w' => e = .returned (.agg #[.int .u32 ((Sums.begin32 seed).a : Nat), .int .u32 ((Sums.begin32 seed).b : Nat), .int .u32 ((Sums.begin32 seed).c : Nat), .int .u32 ((Sums.begin32 seed).d : Nat)]) ∧ Below w.heap.size w w' := by
  have ha : Hid (((seed : Int) + 2654435761 + 2246822519) % 4294967296 = ((Sums.begin32 seed).a : Nat)) := by show _ = _; simp only [Sums.begin32]; omega
  have hb : Hid (((seed : Int) + 2246822519) % 4294967296 = ((Sums.begin32 seed).b : Nat)) := by show _ = _; simp only [Sums.begin32]; omega
  have hd : Hid (((seed : Int) - 2654435761) % 4294967296 = ((Sums.begin32 seed).d : Nat)) := by show _ = _; simp only [Sums.begin32]; omega
  go_enter Tryd.func15, Tryd.ntmps15
  go_wp2_with fail
  go_returns
  rw [ha.out, hb.out, hd.out]
  exact ⟨rfl, (Below.refl _ _).alloc (Nat.le_refl _) _⟩
def hashC (seed : Nat) (f : Sums.Four) (row : List Nat) (wt len : Nat) : List Value :=
  [.int .u32 (seed : Int), .int .u32 (f.a : Int), .int .u32 (f.b : Int), .int .u32 (f.c : Int), .int .u32 (f.d : Int)] ++ byv row ++ [.int .i64 (wt : Int), .int .i64 (len : Int)]
set_option maxHeartbeats 400000 in
theorem new_any (seed : Nat) (w : World) (hq : seed < 4294967296) :
    Calls Tryd.prog 5 #[.int .u32 (seed : Int)] w fun e w' => ∃ g, w.heap.size ≤ g ∧ e = .returned (.pointer (some ⟨g, 0, none⟩)) ∧ w'.heap[g]? = some (.cells (hashC seed (Sums.begin32 seed) (List.replicate 16 0) 0 0).toArray 48 (0, 0)) ∧ Below w.heap.size w w' := by
  go_enter Tryd.func5, Tryd.ntmps5
  go_wp2_with fail
  refine (begin32_any seed _ hq).mono ?_
  rintro e w1 ⟨rfl, B1⟩
  have HB := Hid.mk' B1
  clear B1
  go_wp2_with fail
  go_ret
  refine ⟨w1.heap.size, HB.out.size, rfl, ?_, HB.out.alloc HB.out.size _⟩
  show (w1.heap.push _)[w1.heap.size]? = _
  rw [Array.getElem?_push, if_pos rfl]
  rfl
set_option maxHeartbeats 400000 in
theorem eachRow_none (s : ByteArray) (n : Nat) (v : Value) (w : World) (hn : n < 9223372036854775808) (h : s.size < n) :
    Calls Tryd.prog 17 #[.string s, .int .i64 (n : Int), v] w fun e w' => e = .returned (.string s) ∧ w' = w := by
  have g : ¬ (n : Int) ≤ (s.size : Int) := by omega
  go_enter Tryd.func17, Tryd.ntmps17
  go_wp2_with fail
  refine wp_loop_rounds 1 ?_
  rw [rounds_succ]
  go_wp2_with fail
  go_ret
  exact ⟨rfl, rfl⟩
theorem hashC_len (seed : Nat) (f : Sums.Four) (row : List Nat) (wt len : Nat) (hrow : row.length = 16) : (hashC seed f row wt len).length = 23 := by
  simp [hashC, byv, hrow]
theorem hashC_21 (seed : Nat) (f : Sums.Four) (row : List Nat) (wt len : Nat) (hrow : row.length = 16) : (hashC seed f row wt len)[21]? = some (.int .i64 (wt : Int)) := by
  unfold hashC
  rw [List.getElem?_append_right (by simp [byv, hrow])]
  simp [byv, hrow]
theorem hashC_22 (seed : Nat) (f : Sums.Four) (row : List Nat) (wt len : Nat) (hrow : row.length = 16) : (hashC seed f row wt len)[22]? = some (.int .i64 (len : Int)) := by
  unfold hashC
  rw [List.getElem?_append_right (by simp [byv, hrow])]
  simp [byv, hrow]
theorem hashC_set22 (seed : Nat) (f : Sums.Four) (row : List Nat) (wt len n : Nat) (hrow : row.length = 16) : (hashC seed f row wt len).set 22 (.int .i64 (n : Int)) = hashC seed f row wt n := by
  unfold hashC
  rw [List.set_append_right _ _ (by simp [byv, hrow])]
  simp [byv, hrow]
theorem hashC_set21 (seed : Nat) (f : Sums.Four) (row : List Nat) (wt len n : Nat) (hrow : row.length = 16) : (hashC seed f row wt len).set 21 (.int .i64 (n : Int)) = hashC seed f row n len := by
  unfold hashC
  rw [List.set_append_right _ _ (by simp [byv, hrow])]
  simp [byv, hrow]
/-- bytes laid into a row -/
def laid (row : List Nat) (o : Nat) (l : List Nat) : List Nat := row.take o ++ l ++ row.drop (o + l.length)
theorem laid_len (row : List Nat) (o : Nat) (l : List Nat) (h : o + l.length ≤ row.length) : (laid row o l).length = row.length := by
  unfold laid
  simp; omega
theorem lay_list (A R T L : List Value) (o : Nat) (hA : A.length = 5) (hR : R.length = 16) (ho : o + L.length ≤ 16) :
    (A ++ R ++ T).take (5 + o) ++ L ++ (A ++ R ++ T).drop (5 + o + L.length) = A ++ (R.take o ++ L ++ R.drop (o + L.length)) ++ T := by
  have e1 : (A ++ R ++ T).take (5 + o) = A ++ R.take o := by
    rw [List.append_assoc, List.take_append, List.take_of_length_le (by omega), hA, show 5 + o - 5 = o by omega, List.take_append, show o - R.length = 0 by omega, List.take_zero, List.append_nil]
  have e2 : (A ++ R ++ T).drop (5 + o + L.length) = R.drop (o + L.length) ++ T := by
    rw [List.append_assoc, List.drop_append, List.drop_of_length_le (by omega), hA, show 5 + o + L.length - 5 = o + L.length by omega, List.drop_append, show o + L.length - R.length = 0 by omega, List.drop_zero, List.nil_append]
  rw [e1, e2]
  simp only [List.append_assoc]
theorem hashC_laid (seed : Nat) (f : Sums.Four) (row : List Nat) (wt len o : Nat) (l : List Nat) (hrow : row.length = 16) (ho : o + l.length ≤ 16) :
    (hashC seed f row wt len).take (5 + o) ++ byv l ++ (hashC seed f row wt len).drop (5 + o + l.length) = hashC seed f (laid row o l) wt len := by
  have hb : (byv row).length = 16 := by simp [byv, hrow]
  have hl : (byv l).length = l.length := by simp [byv]
  have e := lay_list [Value.int .u32 (seed : Int), .int .u32 (f.a : Int), .int .u32 (f.b : Int), .int .u32 (f.c : Int), .int .u32 (f.d : Int)] (byv row) [.int .i64 (wt : Int), .int .i64 (len : Int)] (byv l) o rfl hb (by rw [hl]; exact ho)
  rw [hl] at e
  unfold hashC
  rw [e]
  unfold laid byv
  simp only [List.map_append, List.map_take, List.map_drop]
theorem info5 : (Tryd.prog.info? 5).map (·.size) = some 1 := by kernel_rfl
theorem copy_in (w w0 : World) (g seed : Nat) (f : Sums.Four) (row : List Nat) (wt len o m c : Nat) (s : ByteArray) (hrow : row.length = 16) (h : Put g 48 (hashC seed f row wt len) w0 w) (ho : o + m ≤ 16) :
    ∃ w2, (Builtin.copy_ #[49, 9] 3 #[.slice (some ⟨g, 5 + o, none⟩) m c, .string s]).run Tryd.prog w = .ok (goInt (Nat.min s.size m)) w2 ∧ Put g 48 (hashC seed f (laid row o ((Sums.bl s).take (Nat.min s.size m))) wt len) w0 w2 := by
  have hm : Nat.min s.size m ≤ m := Nat.min_le_right _ _
  have hm2 : Nat.min s.size m ≤ s.size := Nat.min_le_left _ _
  have hlen : ((Sums.bl s).take (Nat.min s.size m)).length = Nat.min s.size m := by
    rw [List.length_take, Sums.bl_length]; exact Nat.min_eq_left hm2
  refine ⟨_, run_copy_str Tryd.prog w 49 9 3 5 g (5 + o) m c s _ 48 Tryd.underlying49 info5 h.row (by rw [hashC_len _ _ _ _ _ hrow]; omega), ?_⟩
  have e := hashC_laid seed f row wt len o ((Sums.bl s).take (Nat.min s.size m)) hrow (by rw [hlen]; omega)
  rw [hlen] at e
  rw [e]
  exact h.setRow
theorem Put.drew {g : Nat} {t : TypeId} {cs : List Value} {a b : World} (h : Put g t cs a b) : Put g t cs a b.drew :=
  ⟨h.os, h.tape, h.output, h.size, h.block, h.row⟩
theorem step_copyIn {ops : Array Oper} {o : Oper} {a : Act} {w : World} {K : Act → World → Prop} {Q : Exit → Act → World → Prop} {E : Prop} (hgd : o.guard = none) (d x : Operand)
    (hop : o.op = .call { callee := .builtin .copy, args := #[d, x], argTypes := #[49, 9] }) (hty : o.type = 3) (w0 : World) (g seed : Nat) (f : Sums.Four) (row : List Nat) (wt len p m c : Nat) (s : ByteArray)
    (hd : a.eval d = .slice (some ⟨g, 5 + p, none⟩) m c) (hx : a.eval x = .string s) (hrow : row.length = 16) (h : Put g 48 (hashC seed f row wt len) w0 w) (hp : p + m ≤ 16)
    (hK : ∀ w', Hid (Put g 48 (hashC seed f (laid row p ((Sums.bl s).take (Nat.min s.size m))) wt len) w0 w') → K (a.put o.dst (goInt (Nat.min s.size m))) w') :
    if Region.wanted o (yielded ops a.tmps) = true then Oper.wp Tryd.prog o a w K Q else E := by
  have hw : Region.wanted o (yielded ops a.tmps) = true := by simp [Region.wanted, hgd]
  obtain ⟨w2, E2, P2⟩ := copy_in w w0 g seed f row wt len p m c s hrow h hp
  rw [if_pos hw]
  unfold Oper.wp
  simp [execOp, hop, hty, resolve, invoke, builtin, hd, hx, E2, Result.andThen]
  exact hK w2 P2
set_option maxHeartbeats 1000000 in
theorem write_zero (g seed : Nat) (f : Sums.Four) (row : List Nat) (len : Nat) (s : ByteArray) (w : World) (hrow : row.length = 16) (hl : len + s.size < 9223372036854775808) (hs : s.size < 16) (h : w.heap[g]? = some (.cells (hashC seed f row 0 len).toArray 48 (0, 0))) :
    Calls Tryd.prog 6 #[.pointer (some ⟨g, 0, none⟩), .string s] w fun e w' => e = .returned (.tuple #[]) ∧ Put g 48 (hashC seed f (laid row 0 (Sums.bl s)) s.size (len + s.size)) w w' := by
  have hp := Put.refl h
  have c21 : w.cell? ⟨g, 21, none⟩ = some (.int .i64 0) := hp.cell _ (hashC_21 _ _ _ 0 _ hrow)
  have c22 : w.cell? ⟨g, 22, none⟩ = some (.int .i64 (len : Int)) := hp.cell _ (hashC_22 _ _ _ _ _ hrow)
  have f22 : w.frozen? ⟨g, 22, none⟩ = false := hp.frozen
  have HP := Hid.mk' hp
  clear hp h
  have hmf : ∀ (fn : Fn) (first cap : Array Value) (w : World), (Instr.makeFunc fn first cap).run Tryd.prog w = .ok (.func fn first cap) w := fun _ _ _ _ => rfl
  go_enter Tryd.func6, Tryd.ntmps6
  go_wp2_with fail
  refine (eachRow_none s 16 _ _ (by omega) (by omega)).mono ?_
  rintro e w1 ⟨rfl, rfl⟩
  go_wp2_with fail
  have P1 : Put g 48 (hashC seed f row 0 (len + s.size)) w (w.setCell ⟨g, 22, none⟩ (.int .i64 ((len : Int) + (s.size : Int)))) := by
    have := HP.out.setCell (o := 22) (.int .i64 ((len + s.size : Nat) : Int))
    rw [hashC_set22 _ _ _ _ _ _ hrow] at this
    exact this
  obtain ⟨w2, E2, P2⟩ := copy_in _ w g seed f row 0 (len + s.size) 0 16 16 s hrow P1 (by omega)
  have em : Nat.min s.size 16 = s.size := Nat.min_eq_left (by omega)
  rw [em] at E2 P2
  rw [← Sums.bl_length, List.take_length, Sums.bl_length] at P2
  rw [E2]
  have hr2 : (laid row 0 (Sums.bl s)).length = 16 := by rw [laid_len _ _ _ (by rw [Sums.bl_length]; omega)]; exact hrow
  have d21 : w2.cell? ⟨g, 21, none⟩ = some (.int .i64 0) := P2.cell _ (hashC_21 _ _ _ 0 _ hr2)
  have f21 : w2.frozen? ⟨g, 21, none⟩ = false := P2.frozen
  have HP2 := Hid.mk' P2
  clear P1 P2 E2 HP c21 c22 f22
  go_wp2_with fail
  go_end0
  refine ⟨rfl, ?_⟩
  have := HP2.out.setCell (o := 21) (.int .i64 ((s.size : Nat) : Int))
  rw [hashC_set21 _ _ _ _ _ _ hr2] at this
  exact this
set_option maxHeartbeats 1000000 in
theorem write_more (g seed : Nat) (f : Sums.Four) (row : List Nat) (wt len : Nat) (s : ByteArray) (w : World) (hrow : row.length = 16) (hl : len + s.size < 9223372036854775808) (hw0 : 0 < wt) (hs : wt + s.size < 16) (h : w.heap[g]? = some (.cells (hashC seed f row wt len).toArray 48 (0, 0))) :
    Calls Tryd.prog 6 #[.pointer (some ⟨g, 0, none⟩), .string s] w fun e w' => e = .returned (.tuple #[]) ∧ Put g 48 (hashC seed f (laid row wt (Sums.bl s)) (wt + s.size) (len + s.size)) w w' := by
  have hp := Put.refl h
  have c21 : w.cell? ⟨g, 21, none⟩ = some (.int .i64 (wt : Int)) := hp.cell _ (hashC_21 _ _ _ _ _ hrow)
  have c22 : w.cell? ⟨g, 22, none⟩ = some (.int .i64 (len : Int)) := hp.cell _ (hashC_22 _ _ _ _ _ hrow)
  have f22 : w.frozen? ⟨g, 22, none⟩ = false := hp.frozen
  have HP := Hid.mk' hp
  clear hp h
  have g0 : (0 : Int) < (wt : Int) := by omega
  have g16 : (wt : Int) ≤ 16 := by omega
  have hmf : ∀ (fn : Fn) (first cap : Array Value) (w : World), (Instr.makeFunc fn first cap).run Tryd.prog w = .ok (.func fn first cap) w := fun _ _ _ _ => rfl
  go_enter Tryd.func6, Tryd.ntmps6
  go_wp2_with fail
  have P1 : Put g 48 (hashC seed f row wt (len + s.size)) w (w.setCell ⟨g, 22, none⟩ (.int .i64 ((len : Int) + (s.size : Int)))) := by
    have := HP.out.setCell (o := 22) (.int .i64 ((len + s.size : Nat) : Int))
    rw [hashC_set22 _ _ _ _ _ _ hrow] at this
    exact this
  have HP1 := Hid.mk' P1
  clear P1 HP c21 c22 f22
  generalize w.setCell ⟨g, 22, none⟩ (.int .i64 ((len : Int) + (s.size : Int))) = w1 at *
  have c21 : w1.cell? ⟨g, 21, none⟩ = some (.int .i64 (wt : Int)) := HP1.out.cell _ (hashC_21 _ _ _ _ _ hrow)
  have hwl : ¬ (16 = wt) := by omega
  go_region_law (refine step_copyIn rfl (.tmp 27) (.tmp 28) rfl rfl w g seed f row wt (len + s.size) wt (16 - wt) (16 - wt) s rfl rfl hrow HP1.out.drew (by omega) ?_; intro w2 HP2)
  have em : Nat.min s.size (16 - wt) = s.size := Nat.min_eq_left (by omega)
  rw [em] at HP2
  rw [em]
  have et : (Sums.bl s).take s.size = Sums.bl s := by rw [← Sums.bl_length, List.take_length]
  rw [et] at HP2
  have hr2 : (laid row wt (Sums.bl s)).length = 16 := by rw [laid_len _ _ _ (by rw [Sums.bl_length]; omega)]; exact hrow
  clear em et c21
  have d21 : w2.cell? ⟨g, 21, none⟩ = some (.int .i64 (wt : Int)) := HP2.out.cell _ (hashC_21 _ _ _ _ _ hr2)
  have f21 : w2.frozen? ⟨g, 21, none⟩ = false := HP2.out.frozen
  have hlt : (wt : Int) + (s.size : Int) < 16 := by omega
  go_wp2_with fail
  go_returns
  refine ⟨rfl, ?_⟩
  have := HP2.out.setCell (o := 21) (.int .i64 ((wt + s.size : Nat) : Int))
  rw [hashC_set21 _ _ _ _ _ _ hr2] at this
  exact this
theorem hashC_row (seed : Nat) (f : Sums.Four) (row : List Nat) (wt len i : Nat) (hrow : row.length = 16) (hi : i < 16) : (hashC seed f row wt len)[5 + i]? = some (.int .u8 ((row.getD i 0 : Nat) : Int)) := by
  unfold hashC
  rw [List.append_assoc, List.getElem?_append_right (by simp)]
  have hb : (byv row).length = 16 := by simp [byv, hrow]
  rw [show (5 + i - List.length [Value.int .u32 (seed : Int), .int .u32 (f.a : Int), .int .u32 (f.b : Int), .int .u32 (f.c : Int), .int .u32 (f.d : Int)]) = i by simp, List.getElem?_append_left (by omega)]
  unfold byv
  rw [List.getElem?_map, List.getElem?_eq_getElem (by omega), List.getD_eq_getElem?_getD, List.getElem?_eq_getElem (by omega)]
  rfl
theorem hashC_0 (seed : Nat) (f : Sums.Four) (row : List Nat) (wt len : Nat) : (hashC seed f row wt len)[0]? = some (.int .u32 (seed : Int)) := rfl
theorem bl_nums (l : List Nat) (hl : ∀ z ∈ l, z < 256) : Sums.bl (strOfNums (l.map fun z => ((z : Nat) : Int))) = l := by
  show ((l.map fun z => ((z : Nat) : Int)).map fun n => UInt8.ofNat n.toNat).toArray.toList.map UInt8.toNat = l
  rw [List.toList_toArray, List.map_map, List.map_map]
  conv => rhs; rw [← List.map_id l]
  apply List.map_congr_left
  intro z hz
  show (UInt8.ofNat ((z : Int).toNat)).toNat = z
  rw [Int.toNat_natCast]
  exact UInt8.toNat_ofNat_of_lt (hl z hz)
/-- the bytes that wait, as a text -/
def rowStr (row : List Nat) (n : Nat) : ByteArray := strOfNums ((row.take n).map fun z => ((z : Nat) : Int))
theorem bl_rowStr (row : List Nat) (n : Nat) (hb : ∀ z ∈ row, z < 256) : Sums.bl (rowStr row n) = row.take n := bl_nums _ (fun z hz => hb z (List.mem_of_mem_take hz))
theorem rowText (w0 w : World) (g seed : Nat) (f : Sums.Four) (row : List Nat) (wt len n c : Nat) (hrow : row.length = 16) (hn : n ≤ 16) (h : Put g 48 (hashC seed f row wt len) w0 w) :
    (convert 49 9 (.slice (some ⟨g, 5, none⟩) n c)).run Tryd.prog w = .ok (.string (rowStr row n)) w := by
  refine run_convert_bytes_arg w 49 5 Tryd.underlying49 Tryd.underlying5 g 5 n c _ (by simp; omega) (fun i hi => ?_) 9 Tryd.underlying9
  rw [h.cell _ (hashC_row seed f row wt len i hrow (by omega))]
  rw [List.getD_eq_getElem?_getD, List.getD_eq_getElem?_getD, List.getElem?_map, List.getElem?_take_of_lt (by omega), List.getElem?_eq_getElem (show i < row.length by omega)]
  rfl
set_option maxHeartbeats 1000000 in
theorem sum_less (g seed : Nat) (f : Sums.Four) (row : List Nat) (wt len : Nat) (w : World) (hrow : row.length = 16) (hb : ∀ z ∈ row, z < 256) (hq : seed < 4294967296) (hl : len < 16) (hwt : wt ≤ 16) (h : w.heap[g]? = some (.cells (hashC seed f row wt len).toArray 48 (0, 0))) :
    Calls Tryd.prog 8 #[.pointer (some ⟨g, 0, none⟩)] w fun e w' => e = .returned (.int .u32 (Sums.last32 ((seed + 374761393) % 4294967296) len (row.take wt) : Nat)) ∧ ∃ n, w' = w.drewN n := by
  have hp := Put.refl h
  have c0 : w.cell? ⟨g, 0, none⟩ = some (.int .u32 (seed : Int)) := hp.cell _ (hashC_0 _ _ _ _ _)
  have c21 : w.cell? ⟨g, 21, none⟩ = some (.int .i64 (wt : Int)) := hp.cell _ (hashC_21 _ _ _ _ _ hrow)
  have c22 : w.cell? ⟨g, 22, none⟩ = some (.int .i64 (len : Int)) := hp.cell _ (hashC_22 _ _ _ _ _ hrow)
  have g1 : ¬ (16 : Int) ≤ (len : Int) := by omega
  have g2 : (wt : Int) ≤ 16 := by omega
  have hcv : ∀ n c, (convert 49 9 (.slice (some ⟨g, 5, none⟩) wt c)).run Tryd.prog (w.drewN n) = .ok (.string (rowStr row wt)) (w.drewN n) := fun n c => rowText w (w.drewN n) g seed f row wt len wt c hrow hwt (hp.drewN n)
  have HB := Hid.mk' (bl_rowStr row wt hb)
  have hz : (rowStr row wt).size ≤ maxLen := by
    rw [← Sums.bl_length, HB.out, List.length_take]
    unfold maxLen; omega
  clear hp h
  go_enter Tryd.func8, Tryd.ntmps8
  go_wp2_with fail
  obtain ⟨S, hS⟩ : ∃ S, S = (seed + 374761393) % 4294967296 := ⟨_, rfl⟩
  have e5 : ((seed : Int) + 374761393) % 4294967296 = (S : Int) := by omega
  have l5 : S < 4294967296 := by omega
  have HS := Hid.mk' hS
  clear hS
  rw [e5]
  clear e5
  go_quiet ((go_at_call 19; exact Calls.quiet_of (last32_any S len (rowStr row wt) _ l5 (by omega) hz)))
  go_wp2_with fail
  go_ret
  exact ⟨ret_u32 (by rw [HB.out, HS.out]), nq, rfl⟩
set_option maxHeartbeats 400000 in
theorem len_any (g seed : Nat) (f : Sums.Four) (row : List Nat) (wt len : Nat) (w : World) (hrow : row.length = 16) (h : w.heap[g]? = some (.cells (hashC seed f row wt len).toArray 48 (0, 0))) :
    Calls Tryd.prog 10 #[.pointer (some ⟨g, 0, none⟩)] w fun e w' => e = .returned (.int .i64 (len : Int)) ∧ w' = w := by
  have c22 : w.cell? ⟨g, 22, none⟩ = some (.int .i64 (len : Int)) := (Put.refl h).cell _ (hashC_22 _ _ _ _ _ hrow)
  clear h
  go_enter Tryd.func10, Tryd.ntmps10
  go_wp2_with fail
  go_ret
  exact ⟨rfl, rfl⟩
end Go.Proofs.YtapphnkddjchkaaDoor
