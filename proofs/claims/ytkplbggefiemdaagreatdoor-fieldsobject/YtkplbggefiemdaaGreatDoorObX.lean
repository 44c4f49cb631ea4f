/-
  object: Right of values that are right: plainText, ownSize, isNumber, isWritten, isTwice. Conditions: as each says.
-/
import Derived.Test.YtkplbggefiemdaaGreatDoorObW
namespace Go.Proofs.YtkplbggefiemdaaGreatDoor
open Go.RowKit Go.Maps
set_option linter.unusedVariables false
set_option linter.unusedSimpArgs false
/-- names in memory, by the place of their row -/
def NmS (p : Option Addr) (ns : List ByteArray) (w : World) : Prop := ∀ i t, ns[i]? = some t → ∃ g off, p = some ⟨g, off, none⟩ ∧ g < w.heap.size ∧ w.cell? ⟨g, off + i, none⟩ = some (.string t)
theorem StrsAt.nms {F : Nat → Prop} {X : World} {ns : List ByteArray} {v : Value} (h : StrsAt F X ns v) : ∃ p c, v = .slice p ns.length c ∧ NmS p ns X := by
  rcases h with ⟨rfl, p, c, rfl⟩ | ⟨g, off, c, rfl, h1, h2, h3⟩
  · exact ⟨p, c, rfl, fun i t hi => by simp at hi⟩
  · exact ⟨_, c, rfl, fun i t hi => ⟨g, off, rfl, h2, h3 i t hi⟩⟩
theorem NmS.below {p : Option Addr} {ns : List ByteArray} {w w' : World} (h : NmS p ns w) (hb : Below w.heap.size w w') : NmS p ns w' := fun i t hi => by
  obtain ⟨g, off, h1, h2, h3⟩ := h i t hi
  exact ⟨g, off, h1, Nat.lt_of_lt_of_le h2 hb.size, (hb.cell (p := ⟨g, off + i, none⟩) h2).trans h3⟩
theorem plainText1 (t : ByteArray) (pn pk : Option Addr) (nn cn nk ck : Nat) (w : World) : Calls Tryz.prog 69 #[.agg #[.int .i64 1, .string t, .slice pn nn cn, .slice pk nk ck]] w fun e w' => e = .returned (.string ⟨#[110, 117, 108, 108]⟩) ∧ Below w.heap.size w w' := by
  have HB : Hid (∀ o : Obj, Below w.heap.size w (w.alloc o)) := Hid.mk' (fun o => (Below.refl _ w).alloc (Nat.le_refl _) o)
  go_enter Tryz.func69, Tryz.ntmps69
  go_wp2_with fail
  go_ret
  exact ⟨rfl, HB.out _⟩
theorem plainText2 (t : ByteArray) (pn pk : Option Addr) (nn cn nk ck : Nat) (w : World) : Calls Tryz.prog 69 #[.agg #[.int .i64 2, .string t, .slice pn nn cn, .slice pk nk ck]] w fun e w' => e = .returned (.string ⟨#[102, 97, 108, 115, 101]⟩) ∧ Below w.heap.size w w' := by
  have HB : Hid (∀ o : Obj, Below w.heap.size w (w.alloc o)) := Hid.mk' (fun o => (Below.refl _ w).alloc (Nat.le_refl _) o)
  go_enter Tryz.func69, Tryz.ntmps69
  go_wp2_with fail
  go_ret
  exact ⟨rfl, HB.out _⟩
theorem plainText3 (t : ByteArray) (pn pk : Option Addr) (nn cn nk ck : Nat) (w : World) : Calls Tryz.prog 69 #[.agg #[.int .i64 3, .string t, .slice pn nn cn, .slice pk nk ck]] w fun e w' => e = .returned (.string ⟨#[116, 114, 117, 101]⟩) ∧ Below w.heap.size w w' := by
  have HB : Hid (∀ o : Obj, Below w.heap.size w (w.alloc o)) := Hid.mk' (fun o => (Below.refl _ w).alloc (Nat.le_refl _) o)
  go_enter Tryz.func69, Tryz.ntmps69
  go_wp2_with fail
  go_ret
  exact ⟨rfl, HB.out _⟩
theorem plainText4 (t : ByteArray) (pn pk : Option Addr) (nn cn nk ck : Nat) (w : World) : Calls Tryz.prog 69 #[.agg #[.int .i64 4, .string t, .slice pn nn cn, .slice pk nk ck]] w fun e w' => e = .returned (.string t) ∧ Below w.heap.size w w' := by
  have HB : Hid (∀ o : Obj, Below w.heap.size w (w.alloc o)) := Hid.mk' (fun o => (Below.refl _ w).alloc (Nat.le_refl _) o)
  go_enter Tryz.func69, Tryz.ntmps69
  go_wp2_with fail
  go_ret
  exact ⟨rfl, HB.out _⟩
theorem plainText5 (t : ByteArray) (pn pk : Option Addr) (nn cn nk ck : Nat) (w : World) : Calls Tryz.prog 69 #[.agg #[.int .i64 5, .string t, .slice pn nn cn, .slice pk nk ck]] w fun e w' => e = .returned (.string t) ∧ Below w.heap.size w w' := by
  have HB : Hid (∀ o : Obj, Below w.heap.size w (w.alloc o)) := Hid.mk' (fun o => (Below.refl _ w).alloc (Nat.le_refl _) o)
  go_enter Tryz.func69, Tryz.ntmps69
  go_wp2_with fail
  go_ret
  exact ⟨rfl, HB.out _⟩
set_option maxHeartbeats 2000000 in
theorem ownSize4 (t : ByteArray) (pn pk : Option Addr) (nn cn nk ck : Nat) (w : World) (ht : t.size ≤ 281474976710656) : Calls Tryz.prog 100 #[.agg #[.int .i64 4, .string t, .slice pn nn cn, .slice pk nk ck]] w fun e w' => e = .returned (.int .i64 (t.size : Int)) ∧ Below w.heap.size w w' := by
  have htI : (t.size : Int) ≤ 281474976710656 := by omega
  have HB : Hid (∀ (o : Obj) (X : World), Below (w.alloc o).heap.size (w.alloc o) X → Below w.heap.size w X) := Hid.mk' (fun o X h => ((Below.refl _ w).alloc (Nat.le_refl _) o).trans ⟨h.os, h.tape, h.output, h.size, fun k hk => h.block k (by rw [World.size_alloc]; omega)⟩)
  have HP := Hid.mk' (fun W => plainText4 t pn pk nn cn nk ck W)
  clear ht
  go_enter Tryz.func100, Tryz.ntmps100
  go_wp2_with fail
  refine (HP.out _).mono ?_
  rintro e w1 ⟨rfl, hb⟩
  have HB1 := Hid.mk' (HB.out _ _ hb)
  clear hb
  go_wp2_with fail
  go_ret
  exact ⟨rfl, HB1.out⟩
set_option maxHeartbeats 2000000 in
theorem ownSize1 (t : ByteArray) (pn pk : Option Addr) (nn cn nk ck : Nat) (w : World) : Calls Tryz.prog 100 #[.agg #[.int .i64 1, .string t, .slice pn nn cn, .slice pk nk ck]] w fun e w' => e = .returned (.int .i64 4) ∧ Below w.heap.size w w' := by
  have HB : Hid (∀ (o : Obj) (X : World), Below (w.alloc o).heap.size (w.alloc o) X → Below w.heap.size w X) := Hid.mk' (fun o X h => ((Below.refl _ w).alloc (Nat.le_refl _) o).trans ⟨h.os, h.tape, h.output, h.size, fun k hk => h.block k (by rw [World.size_alloc]; omega)⟩)
  have HP := Hid.mk' (fun W => plainText1 t pn pk nn cn nk ck W)
  go_enter Tryz.func100, Tryz.ntmps100
  go_wp2_with fail
  refine (HP.out _).mono ?_
  rintro e w1 ⟨rfl, hb⟩
  have HB1 := Hid.mk' (HB.out _ _ hb)
  clear hb
  go_wp2_with fail
  go_ret
  exact ⟨rfl, HB1.out⟩
set_option maxHeartbeats 2000000 in
theorem ownSize2 (t : ByteArray) (pn pk : Option Addr) (nn cn nk ck : Nat) (w : World) : Calls Tryz.prog 100 #[.agg #[.int .i64 2, .string t, .slice pn nn cn, .slice pk nk ck]] w fun e w' => e = .returned (.int .i64 5) ∧ Below w.heap.size w w' := by
  have HB : Hid (∀ (o : Obj) (X : World), Below (w.alloc o).heap.size (w.alloc o) X → Below w.heap.size w X) := Hid.mk' (fun o X h => ((Below.refl _ w).alloc (Nat.le_refl _) o).trans ⟨h.os, h.tape, h.output, h.size, fun k hk => h.block k (by rw [World.size_alloc]; omega)⟩)
  have HP := Hid.mk' (fun W => plainText2 t pn pk nn cn nk ck W)
  go_enter Tryz.func100, Tryz.ntmps100
  go_wp2_with fail
  refine (HP.out _).mono ?_
  rintro e w1 ⟨rfl, hb⟩
  have HB1 := Hid.mk' (HB.out _ _ hb)
  clear hb
  go_wp2_with fail
  go_ret
  exact ⟨rfl, HB1.out⟩
set_option maxHeartbeats 2000000 in
theorem ownSize3 (t : ByteArray) (pn pk : Option Addr) (nn cn nk ck : Nat) (w : World) : Calls Tryz.prog 100 #[.agg #[.int .i64 3, .string t, .slice pn nn cn, .slice pk nk ck]] w fun e w' => e = .returned (.int .i64 4) ∧ Below w.heap.size w w' := by
  have HB : Hid (∀ (o : Obj) (X : World), Below (w.alloc o).heap.size (w.alloc o) X → Below w.heap.size w X) := Hid.mk' (fun o X h => ((Below.refl _ w).alloc (Nat.le_refl _) o).trans ⟨h.os, h.tape, h.output, h.size, fun k hk => h.block k (by rw [World.size_alloc]; omega)⟩)
  have HP := Hid.mk' (fun W => plainText3 t pn pk nn cn nk ck W)
  go_enter Tryz.func100, Tryz.ntmps100
  go_wp2_with fail
  refine (HP.out _).mono ?_
  rintro e w1 ⟨rfl, hb⟩
  have HB1 := Hid.mk' (HB.out _ _ hb)
  clear hb
  go_wp2_with fail
  go_ret
  exact ⟨rfl, HB1.out⟩
set_option maxHeartbeats 2000000 in
theorem ownSize5 (t : ByteArray) (pn pk : Option Addr) (nn cn nk ck : Nat) (w : World) (ht : t.size ≤ 281474976710656) : Calls Tryz.prog 100 #[.agg #[.int .i64 5, .string t, .slice pn nn cn, .slice pk nk ck]] w fun e w' => e = .returned (.int .i64 (txS (Sums.bl t) 2 : Int)) ∧ Below w.heap.size w w' := by
  have HB : Hid (∀ o : Obj, Below w.heap.size w (w.alloc o)) := Hid.mk' (fun o => (Below.refl _ w).alloc (Nat.le_refl _) o)
  have HP := Hid.mk' (fun W => textSize_any t W ht)
  clear ht
  go_enter Tryz.func100, Tryz.ntmps100
  go_wp2_with fail
  refine (HP.out _).mono ?_
  rintro e w1 ⟨rfl, hw⟩
  have hw2 := hw.symm
  subst hw2
  clear hw
  go_wp2_with fail
  go_ret
  exact ⟨rfl, HB.out _⟩
/-- names' bytes -/
def nmSz : List ByteArray → Nat → Nat
  | [], a => a
  | t :: r, a => nmSz r (a + (txS (Sums.bl t) 2 + 1))
set_option maxRecDepth 100000 in
set_option maxHeartbeats 4000000 in
theorem ownSize6 (t : ByteArray) (ns : List ByteArray) (pn pk : Option Addr) (cn nk ck : Nat) (w : World) (hn : NmS pn ns w) (hs : ∀ t ∈ ns, t.size ≤ 65536) (hl : ns.length ≤ 65536) (hk : nk ≤ 65536) : Calls Tryz.prog 100 #[.agg #[.int .i64 6, .string t, .slice pn ns.length cn, .slice pk nk ck]] w fun e w' => e = .returned (.int .i64 (nmSz ns (2 + (nk - 1)) : Int)) ∧ Below w.heap.size w w' := by
  have HB : Hid (∀ o : Obj, Below w.heap.size w (w.alloc o) ∧ NmS pn ns (w.alloc o)) := Hid.mk' (fun o => ⟨(Below.refl _ w).alloc (Nat.le_refl _) o, hn.below ((Below.refl _ w).alloc (Nat.le_refl _) o)⟩)
  have HS := Hid.mk' hs
  have HL := Hid.mk' hl
  have hlI : (ns.length : Int) ≤ 65536 := by omega
  have hkI : (nk : Int) ≤ 65536 := by omega
  have hmx : max ((nk : Int) - 1) 0 = ((nk - 1 : Nat) : Int) := by omega
  obtain ⟨m, hm⟩ : ∃ m, nk - 1 = m := ⟨_, rfl⟩
  rw [hm] at hmx ⊢
  have hmI : (m : Int) ≤ 65536 := by omega
  have HM : Hid (m ≤ 65536) := Hid.mk' (by omega)
  obtain ⟨N, hN⟩ : ∃ N, nmSz ns (2 + m) = N := ⟨_, rfl⟩
  rw [hN]
  have HN := Hid.mk' hN
  clear hn hs hl hk hm hN
  go_enter Tryz.func100, Tryz.ntmps100
  go_wp2_with fail
  go_loopw [3, 25] (fun av iv wr => ∃ i a : Nat, av = .int .i64 ((a : Nat) : Int) ∧ iv = .int .i64 ((i : Nat) : Int) ∧ i ≤ ns.length ∧ a ≤ 70000 + i * 400000 ∧ Hid (nmSz (ns.drop i) a = N) ∧ Hid (NmS pn ns wr ∧ Below w.heap.size w wr)) (fun _ iv _ => ns.length - (intOf iv).toNat)
  case atStart => exact ⟨0, 2 + m, by simp, rfl, by omega, by have := HM.out; omega, HN, Hid.mk' ⟨(HB.out _).2, (HB.out _).1⟩⟩
  case round =>
    obtain ⟨i, a, rfl, rfl, hi, ha, HA, HW⟩ := hrel
    clear HB HN
    rename World => wi
    by_cases hiT : i < ns.length
    · have hiI : (i : Int) < (ns.length : Int) := by omega
      obtain ⟨x, hx⟩ : ∃ x, ns[i]? = some x := ⟨_, List.getElem?_eq_getElem hiT⟩
      obtain ⟨g, off, hp, hgl, hc⟩ := HW.out.1 i x hx
      have hxs := HS.out x (List.mem_of_getElem? hx)
      have HA2 : Hid (nmSz (ns.drop (i + 1)) (a + (txS (Sums.bl x) 2 + 1)) = N) := Hid.mk' (by rw [← HA.out, List.drop_eq_getElem_cons hiT, nmSz]; rw [List.getElem?_eq_getElem hiT] at hx; simp at hx; rw [hx])
      have hb : txS (Sums.bl x) 2 ≤ 393218 := by have := txS_le (Sums.bl x) 2; rw [Sums.bl_length] at this; omega
      have HBC := Hid.mk' (fun W => textSize_any x W (by omega))
      generalize txS (Sums.bl x) 2 = b at HA2 hb HBC
      have haI : (a : Int) ≤ 70000 + 65536 * 400000 := by have := HL.out; omega
      have hbI : (b : Int) ≤ 393218 := by omega
      have HABI : Hid (a + (b + 1) ≤ 70000 + (i + 1) * 400000) := Hid.mk' (by omega)
      subst hp
      clear HA ha hb hx hxs
      go_wp2_with fail
      refine (HBC.out _).mono ?_
      rintro e w1 ⟨rfl, hw1⟩
      have hw2 := hw1.symm
      subst hw2
      clear hw1
      go_wp2_with fail
      go_roundw
      case rel => exact ⟨i + 1, a + (b + 1), by simp, by simp, by omega, HABI.out, HA2, HW⟩
      case measure => simp [intOf]; omega
    · obtain rfl : i = ns.length := by omega
      have hA := HA.out
      rw [List.drop_eq_nil_of_le (Nat.le_refl _), nmSz] at hA
      subst hA
      clear HA
      go_wp2_with fail
      go_ret
      exact ⟨rfl, HW.out.2⟩
set_option maxRecDepth 100000 in
set_option maxHeartbeats 4000000 in
theorem ownSize7 (t : ByteArray) (ns : List ByteArray) (pn pk : Option Addr) (cn nk ck : Nat) (w : World) (hn : NmS pn ns w) (hs : ∀ t ∈ ns, t.size ≤ 65536) (hl : ns.length ≤ 65536) (hk : nk ≤ 65536) : Calls Tryz.prog 100 #[.agg #[.int .i64 7, .string t, .slice pn ns.length cn, .slice pk nk ck]] w fun e w' => e = .returned (.int .i64 (nmSz ns (2 + (nk - 1)) : Int)) ∧ Below w.heap.size w w' := by
  have HB : Hid (∀ o : Obj, Below w.heap.size w (w.alloc o) ∧ NmS pn ns (w.alloc o)) := Hid.mk' (fun o => ⟨(Below.refl _ w).alloc (Nat.le_refl _) o, hn.below ((Below.refl _ w).alloc (Nat.le_refl _) o)⟩)
  have HS := Hid.mk' hs
  have HL := Hid.mk' hl
  have hlI : (ns.length : Int) ≤ 65536 := by omega
  have hkI : (nk : Int) ≤ 65536 := by omega
  have hmx : max ((nk : Int) - 1) 0 = ((nk - 1 : Nat) : Int) := by omega
  obtain ⟨m, hm⟩ : ∃ m, nk - 1 = m := ⟨_, rfl⟩
  rw [hm] at hmx ⊢
  have hmI : (m : Int) ≤ 65536 := by omega
  have HM : Hid (m ≤ 65536) := Hid.mk' (by omega)
  obtain ⟨N, hN⟩ : ∃ N, nmSz ns (2 + m) = N := ⟨_, rfl⟩
  rw [hN]
  have HN := Hid.mk' hN
  clear hn hs hl hk hm hN
  go_enter Tryz.func100, Tryz.ntmps100
  go_wp2_with fail
  go_loopw [3, 25] (fun av iv wr => ∃ i a : Nat, av = .int .i64 ((a : Nat) : Int) ∧ iv = .int .i64 ((i : Nat) : Int) ∧ i ≤ ns.length ∧ a ≤ 70000 + i * 400000 ∧ Hid (nmSz (ns.drop i) a = N) ∧ Hid (NmS pn ns wr ∧ Below w.heap.size w wr)) (fun _ iv _ => ns.length - (intOf iv).toNat)
  case atStart => exact ⟨0, 2 + m, by simp, rfl, by omega, by have := HM.out; omega, HN, Hid.mk' ⟨(HB.out _).2, (HB.out _).1⟩⟩
  case round =>
    obtain ⟨i, a, rfl, rfl, hi, ha, HA, HW⟩ := hrel
    clear HB HN
    rename World => wi
    by_cases hiT : i < ns.length
    · have hiI : (i : Int) < (ns.length : Int) := by omega
      obtain ⟨x, hx⟩ : ∃ x, ns[i]? = some x := ⟨_, List.getElem?_eq_getElem hiT⟩
      obtain ⟨g, off, hp, hgl, hc⟩ := HW.out.1 i x hx
      have hxs := HS.out x (List.mem_of_getElem? hx)
      have HA2 : Hid (nmSz (ns.drop (i + 1)) (a + (txS (Sums.bl x) 2 + 1)) = N) := Hid.mk' (by rw [← HA.out, List.drop_eq_getElem_cons hiT, nmSz]; rw [List.getElem?_eq_getElem hiT] at hx; simp at hx; rw [hx])
      have hb : txS (Sums.bl x) 2 ≤ 393218 := by have := txS_le (Sums.bl x) 2; rw [Sums.bl_length] at this; omega
      have HBC := Hid.mk' (fun W => textSize_any x W (by omega))
      generalize txS (Sums.bl x) 2 = b at HA2 hb HBC
      have haI : (a : Int) ≤ 70000 + 65536 * 400000 := by have := HL.out; omega
      have hbI : (b : Int) ≤ 393218 := by omega
      have HABI : Hid (a + (b + 1) ≤ 70000 + (i + 1) * 400000) := Hid.mk' (by omega)
      subst hp
      clear HA ha hb hx hxs
      go_wp2_with fail
      refine (HBC.out _).mono ?_
      rintro e w1 ⟨rfl, hw1⟩
      have hw2 := hw1.symm
      subst hw2
      clear hw1
      go_wp2_with fail
      go_roundw
      case rel => exact ⟨i + 1, a + (b + 1), by simp, by simp, by omega, HABI.out, HA2, HW⟩
      case measure => simp [intOf]; omega
    · obtain rfl : i = ns.length := by omega
      have hA := HA.out
      rw [List.drop_eq_nil_of_le (Nat.le_refl _), nmSz] at hA
      subst hA
      clear HA
      go_wp2_with fail
      go_ret
      exact ⟨rfl, HW.out.2⟩
end Go.Proofs.YtkplbggefiemdaaGreatDoor
