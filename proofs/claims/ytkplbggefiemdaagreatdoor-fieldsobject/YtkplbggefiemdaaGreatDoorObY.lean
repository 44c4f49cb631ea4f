/-
  object: Right of values that are right: isNumber, isWritten, isTwice. Conditions: as each says.
-/
import Derived.Test.YtkplbggefiemdaaGreatDoorObX
namespace Go.Proofs.YtkplbggefiemdaaGreatDoor
open Go.RowKit Go.Maps
set_option linter.unusedVariables false
set_option linter.unusedSimpArgs false
theorem isNumber1_ok (g : Nat) (S : ByteArray) (p d q : Nat) (w : World) (h : Rr g S p d w) (hS : S.size ≤ 65536) (hn : nmP (Sums.bl S) p = .ok q) : Calls Tryz.prog 163 #[.pointer (some ⟨g, 0, none⟩)] w fun e w' => e = .returned (.tuple #[]) ∧ Rr g S q d w' ∧ Only g w w' := by
  have HC := Hid.mk' (number_any g S p d w h hS)
  rw [hn] at HC
  have HC2 : Hid (Calls Tryz.prog 131 #[.pointer (some ⟨g, 0, none⟩)] w fun e w' => e = .returned (.string (S.extract p q)) ∧ Rr g S q d w' ∧ Only g w w') := HC
  clear h hS hn HC
  go_enter Tryz.func163, Tryz.ntmps163
  go_wp2_with fail
  refine HC2.out.mono ?_
  rintro e w1 ⟨rfl, h1, h2⟩
  have H := Hid.mk' (And.intro h1 h2)
  clear h1 h2
  go_wp2_with fail
  go_end0
  exact ⟨rfl, H.out⟩
set_option maxRecDepth 100000 in
set_option maxHeartbeats 4000000 in
theorem isNumber_ok (S : ByteArray) (w : World) (hS : S.size ≤ 65536) (hn : nmP (Sums.bl S) 0 = .ok S.size) : Calls Tryz.prog 132 #[.string S] w fun e w' => e = .returned (.bool true) ∧ Below w.heap.size w w' := by
  have hmf : ∀ (fn : Fn) (first cap : Array Value) (w : World), (Instr.makeFunc fn first cap).run Tryz.prog w = .ok (.func fn first cap) w := fun _ _ _ _ => rfl
  have HAT : Hid (∀ X, X = w.alloc (.cells #[.string S, .int .i64 0, .int .i64 0] 61) → Calls Tryz.prog 34 #[.func (.func 163) #[] #[.pointer (some ⟨w.heap.size, 0, none⟩)]] X fun e w4 => e = .returned (.agg #[.int .i64 0, .int .i64 0]) ∧ Rr w.heap.size S S.size 0 w4 ∧ Below w.heap.size w w4) := Hid.mk' fun X hX => by
    have x1 : X.heap[w.heap.size]? = some (.cells #[.string S, .int .i64 0, .int .i64 0] 61 (0, 0)) := by subst hX; exact heap_alloc_new w _
    have x2 : Below w.heap.size w X := by subst hX; exact (Below.refl _ w).alloc (Nat.le_refl _) _
    have x3 : X.heap.size = w.heap.size + 1 := by subst hX; exact World.size_alloc _ _
    refine (attempt_any 163 #[] #[.pointer (some ⟨w.heap.size, 0, none⟩)] .ok (fun w2 => w2.heap[X.heap.size]? = some (.cells #[.int .i64 0, .int .i64 0] 63 (0, 0)) ∧ Rr w.heap.size S S.size 0 w2 ∧ Below w.heap.size w w2) X (fun _ => rfl) (fun w1 h1 => ?_)).mono ?_
    · subst h1
      have hb := (Below.refl X.heap.size X).alloc (Nat.le_refl _) (.cells #[.int .i64 0, .int .i64 0] 63)
      have hr : Rr w.heap.size S 0 0 (X.alloc (.cells #[.int .i64 0, .int .i64 0] 63)) := ⟨(hb.block _ (by omega)).trans x1, by omega⟩
      refine Calls.mono (isNumber1_ok w.heap.size S 0 0 S.size _ hr hS hn) ?_
      rintro e w2 ⟨rfl, h2, h3⟩
      have hsz : (X.alloc (.cells #[.int .i64 0, .int .i64 0] 63)).heap.size = X.heap.size + 1 := World.size_alloc _ _
      have k1 := h3.block X.heap.size (by omega) (by omega)
      refine ⟨rfl, k1, k1.trans (heap_alloc_new X _), h2, ⟨h3.os.trans x2.os, h3.tape.trans x2.tape, h3.output.trans x2.output, by have := h3.size; omega, fun k hk => (h3.block k (by omega) (by omega)).trans ((hb.block k (by omega)).trans (x2.block k hk))⟩⟩
    · rintro e w4 ⟨rfl, w2, ⟨q1, q2, q3⟩, rfl⟩
      have a1 := put1_row q1 0 (.int .i64 ((At.ok.code : Nat) : Int))
      have a2 := a1.trans (put1_row a1.row 1 (.int .i64 ((At.ok.place : Nat) : Int)))
      refine ⟨rfl, ⟨(a2.block w.heap.size (by omega)).trans q2.row, q2.le⟩, ⟨a2.os.trans q3.os, a2.tape.trans q3.tape, a2.output.trans q3.output, ?_, fun k hk => (a2.block k (by omega)).trans (q3.block k hk)⟩⟩
      have e1 : (fltW X.heap.size At.ok.code At.ok.place w2).heap.size = w2.heap.size := a2.size
      rw [e1]
      exact q3.size
  have HS := Hid.mk' hS
  clear hS hn
  go_enter Tryz.func132, Tryz.ntmps132
  go_wp2_with fail
  refine (HAT.out _ rfl).mono ?_
  rintro e w4 ⟨rfl, h1, h2⟩
  have HAL : Hid (∀ o : Obj, Rr w.heap.size S S.size 0 (w4.alloc o) ∧ Below w.heap.size w (w4.alloc o)) := Hid.mk' (fun o => ⟨h1.below ((Below.refl _ w4).alloc (Nat.le_refl _) o) h1.lt, h2.alloc h2.size o⟩)
  clear h1 h2 HAT
  go_wp2_with fail
  refine (atEnd_any w.heap.size S S.size 0 true _ (HAL.out _).1 HS.out (decide_eq_true rfl)).mono ?_
  rintro e w5 ⟨rfl, n, hw⟩
  have HW : Hid (Below w.heap.size w w5) := Hid.mk' (by rw [hw]; have := (HAL.out (.cells #[.int .i64 0, .int .i64 0] 63)).2; exact ⟨this.os, this.tape, this.output, this.size, this.block⟩)
  clear hw
  go_wp2_with fail
  go_ret
  exact ⟨rfl, HW.out⟩
set_option maxHeartbeats 2000000 in
theorem isWritten4 (t : ByteArray) (pn pk : Option Addr) (nn cn nk ck : Nat) (w : World) (hS : t.size ≤ 65536) (hn : nmP (Sums.bl t) 0 = .ok t.size) : Calls Tryz.prog 98 #[.agg #[.int .i64 4, .string t, .slice pn nn cn, .slice pk nk ck]] w fun e w' => e = .returned (.bool true) ∧ Below w.heap.size w w' := by
  have HB : Hid (∀ (o : Obj) (X : World), Below (w.alloc o).heap.size (w.alloc o) X → Below w.heap.size w X) := Hid.mk' (fun o X h => ((Below.refl _ w).alloc (Nat.le_refl _) o).trans ⟨h.os, h.tape, h.output, h.size, fun k hk => h.block k (by rw [World.size_alloc]; omega)⟩)
  have HP := Hid.mk' (fun W => isNumber_ok t W hS hn)
  clear hS hn
  go_enter Tryz.func98, Tryz.ntmps98
  go_wp2_with fail
  refine (HP.out _).mono ?_
  rintro e w1 ⟨rfl, hb⟩
  have HB1 := Hid.mk' (HB.out _ _ hb)
  clear hb
  go_wp2_with fail
  go_ret
  exact ⟨rfl, HB1.out⟩
set_option maxHeartbeats 2000000 in
theorem isWritten5 (t : ByteArray) (pn pk : Option Addr) (nn cn nk ck : Nat) (w : World) (hS : t.size ≤ 65536) (hn : Lib.validD t.data.toList = true) (hu : UtT w) : Calls Tryz.prog 98 #[.agg #[.int .i64 5, .string t, .slice pn nn cn, .slice pk nk ck]] w fun e w' => e = .returned (.bool true) ∧ Below w.heap.size w w' := by
  have HB : Hid (∀ (o : Obj) (X : World), Below (w.alloc o).heap.size (w.alloc o) X → Below w.heap.size w X) := Hid.mk' (fun o X h => ((Below.refl _ w).alloc (Nat.le_refl _) o).trans ⟨h.os, h.tape, h.output, h.size, fun k hk => h.block k (by rw [World.size_alloc]; omega)⟩)
  have HP : Hid (∀ o : Obj, Calls Tryz.prog 133 #[.string t] (w.alloc o) fun e w' => e = .returned (.bool true) ∧ Below (w.alloc o).heap.size (w.alloc o) w') := Hid.mk' (fun o => valid_ok t _ hS hn (hu.below ((Below.refl _ w).alloc (Nat.le_refl _) o) (Nat.le_refl _)))
  clear hS hn hu
  go_enter Tryz.func98, Tryz.ntmps98
  go_wp2_with fail
  refine (HP.out _).mono ?_
  rintro e w1 ⟨rfl, hb⟩
  have HB1 := Hid.mk' (HB.out _ _ hb)
  clear hb
  go_wp2_with fail
  go_ret
  exact ⟨rfl, HB1.out⟩
set_option maxRecDepth 100000 in
set_option maxHeartbeats 4000000 in
theorem isWritten6 (t : ByteArray) (ns : List ByteArray) (pn pk : Option Addr) (cn nk ck : Nat) (w : World) (hn : NmS pn ns w) (hs : ∀ t ∈ ns, t.size ≤ 65536 ∧ Lib.validD t.data.toList = true) (hl : ns.length ≤ 65536) (hu : UtT w) : Calls Tryz.prog 98 #[.agg #[.int .i64 6, .string t, .slice pn ns.length cn, .slice pk nk ck]] w fun e w' => e = .returned (.bool true) ∧ Below w.heap.size w w' := by
  have HB : Hid (∀ o : Obj, Below w.heap.size w (w.alloc o) ∧ NmS pn ns (w.alloc o)) := Hid.mk' (fun o => ⟨(Below.refl _ w).alloc (Nat.le_refl _) o, hn.below ((Below.refl _ w).alloc (Nat.le_refl _) o)⟩)
  have HS := Hid.mk' hs
  have HU := Hid.mk' hu
  have hlI : (ns.length : Int) ≤ 65536 := by omega
  clear hn hs hl hu
  go_enter Tryz.func98, Tryz.ntmps98
  go_wp2_with fail
  go_loopw [20] (fun iv wr => ∃ i : Nat, iv = .int .i64 ((i : Nat) : Int) ∧ i ≤ ns.length ∧ Hid (NmS pn ns wr ∧ Below w.heap.size w wr)) (fun iv _ => ns.length - (intOf iv).toNat)
  case atStart => exact ⟨0, rfl, by omega, Hid.mk' ⟨(HB.out _).2, (HB.out _).1⟩⟩
  case round =>
    obtain ⟨i, rfl, hi, HW⟩ := hrel
    clear HB
    rename World => wi
    by_cases hiT : i < ns.length
    · have hiI : (i : Int) < (ns.length : Int) := by omega
      obtain ⟨x, hx⟩ : ∃ x, ns[i]? = some x := ⟨_, List.getElem?_eq_getElem hiT⟩
      obtain ⟨g, off, hp, hgl, hc⟩ := HW.out.1 i x hx
      have hxs := HS.out x (List.mem_of_getElem? hx)
      have HBC := Hid.mk' (valid_ok x wi hxs.1 hxs.2 (HU.out.below HW.out.2 (Nat.le_refl _)))
      subst hp
      clear hx hxs
      go_wp2_with fail
      refine HBC.out.mono ?_
      rintro e w1 ⟨rfl, hb⟩
      have HW1 : Hid (NmS (some ⟨g, off, none⟩) ns w1 ∧ Below w.heap.size w w1) := Hid.mk' ⟨HW.out.1.below hb, HW.out.2.trans ⟨hb.os, hb.tape, hb.output, hb.size, fun k hk => hb.block k (by have := HW.out.2.size; omega)⟩⟩
      clear hb hc
      go_wp2_with fail
      go_roundw
      case rel => exact ⟨i + 1, by simp, by omega, HW1⟩
      case measure => simp [intOf]; omega
    · obtain rfl : i = ns.length := by omega
      go_wp2_with fail
      go_ret
      exact ⟨rfl, HW.out.2⟩
set_option maxRecDepth 100000 in
set_option maxHeartbeats 4000000 in
theorem isWritten1 (t : ByteArray) (ns : List ByteArray) (pn pk : Option Addr) (cn nk ck : Nat) (w : World) (hn : NmS pn ns w) (hs : ∀ t ∈ ns, t.size ≤ 65536 ∧ Lib.validD t.data.toList = true) (hl : ns.length ≤ 65536) (hu : UtT w) : Calls Tryz.prog 98 #[.agg #[.int .i64 1, .string t, .slice pn ns.length cn, .slice pk nk ck]] w fun e w' => e = .returned (.bool true) ∧ Below w.heap.size w w' := by
  have HB : Hid (∀ o : Obj, Below w.heap.size w (w.alloc o) ∧ NmS pn ns (w.alloc o)) := Hid.mk' (fun o => ⟨(Below.refl _ w).alloc (Nat.le_refl _) o, hn.below ((Below.refl _ w).alloc (Nat.le_refl _) o)⟩)
  have HS := Hid.mk' hs
  have HU := Hid.mk' hu
  have hlI : (ns.length : Int) ≤ 65536 := by omega
  clear hn hs hl hu
  go_enter Tryz.func98, Tryz.ntmps98
  go_wp2_with fail
  go_loopw [20] (fun iv wr => ∃ i : Nat, iv = .int .i64 ((i : Nat) : Int) ∧ i ≤ ns.length ∧ Hid (NmS pn ns wr ∧ Below w.heap.size w wr)) (fun iv _ => ns.length - (intOf iv).toNat)
  case atStart => exact ⟨0, rfl, by omega, Hid.mk' ⟨(HB.out _).2, (HB.out _).1⟩⟩
  case round =>
    obtain ⟨i, rfl, hi, HW⟩ := hrel
    clear HB
    rename World => wi
    by_cases hiT : i < ns.length
    · have hiI : (i : Int) < (ns.length : Int) := by omega
      obtain ⟨x, hx⟩ : ∃ x, ns[i]? = some x := ⟨_, List.getElem?_eq_getElem hiT⟩
      obtain ⟨g, off, hp, hgl, hc⟩ := HW.out.1 i x hx
      have hxs := HS.out x (List.mem_of_getElem? hx)
      have HBC := Hid.mk' (valid_ok x wi hxs.1 hxs.2 (HU.out.below HW.out.2 (Nat.le_refl _)))
      subst hp
      clear hx hxs
      go_wp2_with fail
      refine HBC.out.mono ?_
      rintro e w1 ⟨rfl, hb⟩
      have HW1 : Hid (NmS (some ⟨g, off, none⟩) ns w1 ∧ Below w.heap.size w w1) := Hid.mk' ⟨HW.out.1.below hb, HW.out.2.trans ⟨hb.os, hb.tape, hb.output, hb.size, fun k hk => hb.block k (by have := HW.out.2.size; omega)⟩⟩
      clear hb hc
      go_wp2_with fail
      go_roundw
      case rel => exact ⟨i + 1, by simp, by omega, HW1⟩
      case measure => simp [intOf]; omega
    · obtain rfl : i = ns.length := by omega
      go_wp2_with fail
      go_ret
      exact ⟨rfl, HW.out.2⟩
set_option maxRecDepth 100000 in
set_option maxHeartbeats 4000000 in
theorem isWritten2 (t : ByteArray) (ns : List ByteArray) (pn pk : Option Addr) (cn nk ck : Nat) (w : World) (hn : NmS pn ns w) (hs : ∀ t ∈ ns, t.size ≤ 65536 ∧ Lib.validD t.data.toList = true) (hl : ns.length ≤ 65536) (hu : UtT w) : Calls Tryz.prog 98 #[.agg #[.int .i64 2, .string t, .slice pn ns.length cn, .slice pk nk ck]] w fun e w' => e = .returned (.bool true) ∧ Below w.heap.size w w' := by
  have HB : Hid (∀ o : Obj, Below w.heap.size w (w.alloc o) ∧ NmS pn ns (w.alloc o)) := Hid.mk' (fun o => ⟨(Below.refl _ w).alloc (Nat.le_refl _) o, hn.below ((Below.refl _ w).alloc (Nat.le_refl _) o)⟩)
  have HS := Hid.mk' hs
  have HU := Hid.mk' hu
  have hlI : (ns.length : Int) ≤ 65536 := by omega
  clear hn hs hl hu
  go_enter Tryz.func98, Tryz.ntmps98
  go_wp2_with fail
  go_loopw [20] (fun iv wr => ∃ i : Nat, iv = .int .i64 ((i : Nat) : Int) ∧ i ≤ ns.length ∧ Hid (NmS pn ns wr ∧ Below w.heap.size w wr)) (fun iv _ => ns.length - (intOf iv).toNat)
  case atStart => exact ⟨0, rfl, by omega, Hid.mk' ⟨(HB.out _).2, (HB.out _).1⟩⟩
  case round =>
    obtain ⟨i, rfl, hi, HW⟩ := hrel
    clear HB
    rename World => wi
    by_cases hiT : i < ns.length
    · have hiI : (i : Int) < (ns.length : Int) := by omega
      obtain ⟨x, hx⟩ : ∃ x, ns[i]? = some x := ⟨_, List.getElem?_eq_getElem hiT⟩
      obtain ⟨g, off, hp, hgl, hc⟩ := HW.out.1 i x hx
      have hxs := HS.out x (List.mem_of_getElem? hx)
      have HBC := Hid.mk' (valid_ok x wi hxs.1 hxs.2 (HU.out.below HW.out.2 (Nat.le_refl _)))
      subst hp
      clear hx hxs
      go_wp2_with fail
      refine HBC.out.mono ?_
      rintro e w1 ⟨rfl, hb⟩
      have HW1 : Hid (NmS (some ⟨g, off, none⟩) ns w1 ∧ Below w.heap.size w w1) := Hid.mk' ⟨HW.out.1.below hb, HW.out.2.trans ⟨hb.os, hb.tape, hb.output, hb.size, fun k hk => hb.block k (by have := HW.out.2.size; omega)⟩⟩
      clear hb hc
      go_wp2_with fail
      go_roundw
      case rel => exact ⟨i + 1, by simp, by omega, HW1⟩
      case measure => simp [intOf]; omega
    · obtain rfl : i = ns.length := by omega
      go_wp2_with fail
      go_ret
      exact ⟨rfl, HW.out.2⟩
set_option maxRecDepth 100000 in
set_option maxHeartbeats 4000000 in
theorem isWritten3 (t : ByteArray) (ns : List ByteArray) (pn pk : Option Addr) (cn nk ck : Nat) (w : World) (hn : NmS pn ns w) (hs : ∀ t ∈ ns, t.size ≤ 65536 ∧ Lib.validD t.data.toList = true) (hl : ns.length ≤ 65536) (hu : UtT w) : Calls Tryz.prog 98 #[.agg #[.int .i64 3, .string t, .slice pn ns.length cn, .slice pk nk ck]] w fun e w' => e = .returned (.bool true) ∧ Below w.heap.size w w' := by
  have HB : Hid (∀ o : Obj, Below w.heap.size w (w.alloc o) ∧ NmS pn ns (w.alloc o)) := Hid.mk' (fun o => ⟨(Below.refl _ w).alloc (Nat.le_refl _) o, hn.below ((Below.refl _ w).alloc (Nat.le_refl _) o)⟩)
  have HS := Hid.mk' hs
  have HU := Hid.mk' hu
  have hlI : (ns.length : Int) ≤ 65536 := by omega
  clear hn hs hl hu
  go_enter Tryz.func98, Tryz.ntmps98
  go_wp2_with fail
  go_loopw [20] (fun iv wr => ∃ i : Nat, iv = .int .i64 ((i : Nat) : Int) ∧ i ≤ ns.length ∧ Hid (NmS pn ns wr ∧ Below w.heap.size w wr)) (fun iv _ => ns.length - (intOf iv).toNat)
  case atStart => exact ⟨0, rfl, by omega, Hid.mk' ⟨(HB.out _).2, (HB.out _).1⟩⟩
  case round =>
    obtain ⟨i, rfl, hi, HW⟩ := hrel
    clear HB
    rename World => wi
    by_cases hiT : i < ns.length
    · have hiI : (i : Int) < (ns.length : Int) := by omega
      obtain ⟨x, hx⟩ : ∃ x, ns[i]? = some x := ⟨_, List.getElem?_eq_getElem hiT⟩
      obtain ⟨g, off, hp, hgl, hc⟩ := HW.out.1 i x hx
      have hxs := HS.out x (List.mem_of_getElem? hx)
      have HBC := Hid.mk' (valid_ok x wi hxs.1 hxs.2 (HU.out.below HW.out.2 (Nat.le_refl _)))
      subst hp
      clear hx hxs
      go_wp2_with fail
      refine HBC.out.mono ?_
      rintro e w1 ⟨rfl, hb⟩
      have HW1 : Hid (NmS (some ⟨g, off, none⟩) ns w1 ∧ Below w.heap.size w w1) := Hid.mk' ⟨HW.out.1.below hb, HW.out.2.trans ⟨hb.os, hb.tape, hb.output, hb.size, fun k hk => hb.block k (by have := HW.out.2.size; omega)⟩⟩
      clear hb hc
      go_wp2_with fail
      go_roundw
      case rel => exact ⟨i + 1, by simp, by omega, HW1⟩
      case measure => simp [intOf]; omega
    · obtain rfl : i = ns.length := by omega
      go_wp2_with fail
      go_ret
      exact ⟨rfl, HW.out.2⟩
set_option maxRecDepth 100000 in
set_option maxHeartbeats 4000000 in
theorem isWritten7 (t : ByteArray) (ns : List ByteArray) (pn pk : Option Addr) (cn nk ck : Nat) (w : World) (hn : NmS pn ns w) (hs : ∀ t ∈ ns, t.size ≤ 65536 ∧ Lib.validD t.data.toList = true) (hl : ns.length ≤ 65536) (hu : UtT w) : Calls Tryz.prog 98 #[.agg #[.int .i64 7, .string t, .slice pn ns.length cn, .slice pk nk ck]] w fun e w' => e = .returned (.bool true) ∧ Below w.heap.size w w' := by
  have HB : Hid (∀ o : Obj, Below w.heap.size w (w.alloc o) ∧ NmS pn ns (w.alloc o)) := Hid.mk' (fun o => ⟨(Below.refl _ w).alloc (Nat.le_refl _) o, hn.below ((Below.refl _ w).alloc (Nat.le_refl _) o)⟩)
  have HS := Hid.mk' hs
  have HU := Hid.mk' hu
  have hlI : (ns.length : Int) ≤ 65536 := by omega
  clear hn hs hl hu
  go_enter Tryz.func98, Tryz.ntmps98
  go_wp2_with fail
  go_loopw [20] (fun iv wr => ∃ i : Nat, iv = .int .i64 ((i : Nat) : Int) ∧ i ≤ ns.length ∧ Hid (NmS pn ns wr ∧ Below w.heap.size w wr)) (fun iv _ => ns.length - (intOf iv).toNat)
  case atStart => exact ⟨0, rfl, by omega, Hid.mk' ⟨(HB.out _).2, (HB.out _).1⟩⟩
  case round =>
    obtain ⟨i, rfl, hi, HW⟩ := hrel
    clear HB
    rename World => wi
    by_cases hiT : i < ns.length
    · have hiI : (i : Int) < (ns.length : Int) := by omega
      obtain ⟨x, hx⟩ : ∃ x, ns[i]? = some x := ⟨_, List.getElem?_eq_getElem hiT⟩
      obtain ⟨g, off, hp, hgl, hc⟩ := HW.out.1 i x hx
      have hxs := HS.out x (List.mem_of_getElem? hx)
      have HBC := Hid.mk' (valid_ok x wi hxs.1 hxs.2 (HU.out.below HW.out.2 (Nat.le_refl _)))
      subst hp
      clear hx hxs
      go_wp2_with fail
      refine HBC.out.mono ?_
      rintro e w1 ⟨rfl, hb⟩
      have HW1 : Hid (NmS (some ⟨g, off, none⟩) ns w1 ∧ Below w.heap.size w w1) := Hid.mk' ⟨HW.out.1.below hb, HW.out.2.trans ⟨hb.os, hb.tape, hb.output, hb.size, fun k hk => hb.block k (by have := HW.out.2.size; omega)⟩⟩
      clear hb hc
      go_wp2_with fail
      go_roundw
      case rel => exact ⟨i + 1, by simp, by omega, HW1⟩
      case measure => simp [intOf]; omega
    · obtain rfl : i = ns.length := by omega
      go_wp2_with fail
      go_ret
      exact ⟨rfl, HW.out.2⟩
set_option maxRecDepth 100000 in
set_option maxHeartbeats 4000000 in
theorem isTwice_no (ns : List ByteArray) (pn : Option Addr) (cn : Nat) (w : World) (hn : NmS pn ns w) (hs : ∀ t ∈ ns, t.size ≤ 65536) (hl : ns.length ≤ 65536) (hd : ((ns.map keyL).foldl addKey []).length = ns.length) : Calls Tryz.prog 99 #[.slice pn ns.length cn] w fun e w' => e = .returned (.bool false) ∧ Below w.heap.size w w' := by
  have hmm : ∀ W : World, (Instr.makeMap 132 (some (.int .i64 (ns.length : Int)))).run Tryz.prog W = .ok (.map (some W.heap.size)) (W.alloc (.map #[] 0)) := fun W => by
    have e1 : (0 : Int) ≤ (ns.length : Int) := by omega
    simp [Instr.makeMap, go_sem, e1]
  have HB : Hid (NmS pn ns (w.alloc (.map #[] 0)) ∧ NmAt w.heap.size [] (w.alloc (.map #[] 0)) ∧ Below w.heap.size w (w.alloc (.map #[] 0))) := Hid.mk' ⟨hn.below ((Below.refl _ w).alloc (Nat.le_refl _) _), World.ownsMap_made (H := Unit) w Tryz.prog 9 (unitElem (H := Unit)), (Below.refl _ w).alloc (Nat.le_refl _) _⟩
  have HS := Hid.mk' hs
  have HL := Hid.mk' hl
  have HD : Hid (Maps.size (setOf (H := Unit) (.agg []) (ns.map keyL)) = ns.length) := Hid.mk' (by rw [size_setOf _ _ (keyL_is ns)]; exact hd)
  have HLT : Hid (∀ i x g off, ns[i]? = some x → pn = some ⟨g, off, none⟩ → g < w.heap.size) := Hid.mk' (fun i x g off hi hp => by
    obtain ⟨g', off', h1, h2, _⟩ := hn i x hi
    rw [hp] at h1
    simp at h1
    omega)
  have hlI : (ns.length : Int) ≤ 65536 := by omega
  clear hn hs hl hd
  go_enter Tryz.func99, Tryz.ntmps99
  go_wp2_with fail
  go_loopw [11] (fun iv wr => ∃ i : Nat, iv = .int .i64 ((i : Nat) : Int) ∧ i ≤ ns.length ∧ Hid (NmS pn ns wr ∧ NmAt w.heap.size (ns.take i) wr ∧ Below w.heap.size w wr)) (fun iv _ => ns.length - (intOf iv).toNat)
  case atStart => exact ⟨0, rfl, by omega, HB⟩
  case round =>
    obtain ⟨i, rfl, hi, HW⟩ := hrel
    clear HB
    rename World => wi
    by_cases hiT : i < ns.length
    · have hiI : (i : Int) < (ns.length : Int) := by omega
      obtain ⟨x, hx⟩ : ∃ x, ns[i]? = some x := ⟨_, List.getElem?_eq_getElem hiT⟩
      obtain ⟨g, off, hp, hgl, hc⟩ := HW.out.1 i x hx
      have hxs := HS.out x (List.mem_of_getElem? hx)
      have HK : Hid (keyOf Tryz.prog 9 (.string x) = some (keyL x)) := Hid.mk' (WideMaps.keyOf_string_mk Tryz.underlying9 (by unfold maxLen; omega))
      have HTK : Hid (ns.take (i + 1) = ns.take i ++ [x]) := Hid.mk' (by rw [List.take_add_one, hx]; rfl)
      have HTL : Hid ((ns.take i).length = i) := Hid.mk' (by rw [List.length_take]; omega)
      have HGW := Hid.mk' (HLT.out i x g off hx hp)
      have HLT2 : Hid (∀ j t, ns[j]? = some t → g < w.heap.size) := Hid.mk' (fun j t hj => HLT.out j t g off hj hp)
      subst hp
      clear hx hxs HLT
      go_wp2_with (first | (at_mapUpdate; refine wpList_mapUpdate_own _ rfl _ _ _ 132 rfl 9 133 (string_keyed Tryz.underlying9) Tryz.underlying132 (unitElem (H := Unit)) w.heap.size (ns.take i).length (setOf (H := Unit) (.agg []) ((ns.take i).map keyL)) rfl (by exact HW.out.2.1) (by unfold maxLen; have := HTL.out; have := HL.out; omega) _ _ _ rfl rfl HK.out (.agg []) [] unitElem_mk ?_; intro w5 hown5 hgrow5; have HM5 := Hid.mk' (nm_snoc hown5); have HG5 := Hid.mk' hgrow5; clear hown5 hgrow5) | fail)
      have HW1 : Hid (NmS (some ⟨g, off, none⟩) ns w5 ∧ NmAt w.heap.size (ns.take (i + 1)) w5 ∧ Below w.heap.size w w5) := Hid.mk' ⟨fun j t hj => by
          obtain ⟨g', off', h1, h2, h3⟩ := HW.out.1 j t hj
          have e : g' = g ∧ off' = off := by simp at h1; omega
          obtain ⟨rfl, rfl⟩ := e
          have hgw := HGW.out
          exact ⟨g', off', rfl, by have := HG5.out.size; omega, (HG5.out.cell_far ⟨g', off' + j, none⟩ h2 (by simp; omega)).trans h3⟩, by rw [HTK.out]; exact HM5.out, ⟨HG5.out.os.trans HW.out.2.2.os, HG5.out.tape.trans HW.out.2.2.tape, HG5.out.output.trans HW.out.2.2.output, Nat.le_trans HW.out.2.2.size HG5.out.size, fun k hk => (HG5.out.block k (by have := HW.out.2.2.size; omega) (by simp; omega)).trans (HW.out.2.2.block k hk)⟩⟩
      clear HM5 HG5 HW hc
      go_wp2_with fail
      go_roundw
      case rel => exact ⟨i + 1, by simp, by omega, HW1⟩
      case measure => simp [intOf]; omega
    · obtain rfl : i = ns.length := by omega
      have HOW : Hid (NmAt w.heap.size ns wi) := Hid.mk' (by have := HW.out.2.1; rw [List.take_length] at this; exact this)
      go_wp2_with (first | (at_len; refine wpList_len_own _ rfl _ 132 rfl 9 133 Tryz.underlying132 (unitElem (H := Unit)) w.heap.size ns.length (setOf (H := Unit) (.agg []) (ns.map keyL)) rfl (by exact HOW.out) ?_; rw [HD.out]) | fail)
      go_ret
      exact ⟨rfl, HW.out.2.2⟩
end Go.Proofs.YtkplbggefiemdaaGreatDoor
