/-
  What a Reader's Uint and Int do. Conditions: as each says.
-/
import Derived.Test.YtchhdkmflppjhaaAtt
namespace Go.Proofs.Ytchhdkmflppjhaa
open Go.RowKit
set_option linter.unusedVariables false
theorem val_int {k : IntKind} {a b : Int} (h : a = b) : Value.int k a = Value.int k b := by rw [h]
theorem call_enter {f : FuncId} {fn : Func} {c : Code} (hf : Try.prog.funcs[f]? = some fn) (hname : (fn.name == "runtime.NumGoroutine") = false) (hb : fn.body = some c) (args : Array Value) (w : World) :
    (callFunc f args).run Try.prog w = .ok (.enter f args) w := by
  have h1 : fn.name ≠ "runtime.NumGoroutine" := by simpa using hname
  simp [callFunc, hf, h1, hb]
theorem ent_groups (args : Array Value) (w : World) : (callFunc 49 args).run Try.prog w = .ok (.enter 49 args) w :=
  call_enter Try.func49 (by kernel_rfl) rfl args w
/-- what is read of a number from the place a on -/
def rdAt (s : ByteArray) (a : Nat) : Nat × Nat × Nat := Code.rd ((Sums.bl s).drop a)
theorem byt_drop (s : ByteArray) (a : Nat) : ∀ z ∈ (Sums.bl s).drop a, z < 256 := fun z hz => Sums.bl_byt s z (List.mem_of_mem_drop hz)
theorem rdAt_lt (s : ByteArray) (a : Nat) (ha : a ≤ s.size) : (rdAt s a).1 < 18446744073709551616 ∧ a + (rdAt s a).2.2 ≤ s.size := by
  have h := Code.rd_lt ((Sums.bl s).drop a) (byt_drop s a)
  rw [List.length_drop, Sums.bl_length] at h
  unfold rdAt
  exact ⟨h.1, by omega⟩
theorem ruint_any (g : Nat) (s : ByteArray) (a : Nat) (w : World) (h : Rdr g s a w) (ha : a ≤ s.size) (hs : s.size ≤ 1125899906842624) :
    Calls Try.prog 23 #[.pointer (some ⟨g, 0, none⟩)] w fun e w' => e = .returned (.tuple #[.int .u64 ((rdAt s a).1 : Int), .int .i64 ((rdAt s a).2.1 : Int)]) ∧ Rdr g s (a + (rdAt s a).2.2) w' ∧ Only g w w' := by
  have hmf : ∀ (fn : Fn) (first cap : Array Value) (w : World), (Instr.makeFunc fn first cap).run Try.prog w = .ok (.func fn first cap) w := fun _ _ _ _ => rfl
  have HH := Hid.mk' h
  have HA := Hid.mk' ha
  have HS := Hid.mk' hs
  clear h ha hs
  go_enter Try.func23, Try.ntmps23
  go_wp2_with fail
  refine (attempt_u 49 #[.pointer (some ⟨g, 0, none⟩)] #[] g s a (a + (rdAt s a).2.2) (rdAt s a).1 (rdAt s a).2.1 w HH.out ?_ (fun w => ent_groups _ w) ?_).mono ?_
  · intro hE
    have := (Code.rd_err _ hE).2
    unfold rdAt
    omega
  · intro w1 hr1 ho1
    refine (groups_any g s a w1 hr1 HA.out HS.out).mono ?_
    rintro e w' ⟨he, a', ha', hr, ho, hE⟩
    exact ⟨he, a', hr, ho, hE⟩
  rintro e w2 ⟨rfl, hr2, ho2⟩
  have HR2 := Hid.mk' hr2
  have HO2 := Hid.mk' ho2
  clear hr2 ho2
  go_wp2_with fail
  go_ret2
  exact ⟨rfl, HR2.out, HO2.out⟩
set_option maxHeartbeats 1000000 in
theorem rint_any (g : Nat) (s : ByteArray) (a : Nat) (w : World) (h : Rdr g s a w) (ha : a ≤ s.size) (hs : s.size ≤ 1125899906842624) :
    Calls Try.prog 52 #[.pointer (some ⟨g, 0, none⟩)] w fun e w' => e = .returned (.tuple #[.int .i64 (Code.zag (rdAt s a).1), .int .i64 ((rdAt s a).2.1 : Int)]) ∧ Rdr g s (a + (rdAt s a).2.2) w' ∧ Only g w w' := by
  have hl := (rdAt_lt s a ha).1
  go_enter Try.func52, Try.ntmps52
  go_wp2_with fail
  refine (ruint_any g s a w h ha hs).mono ?_
  rintro e w2 ⟨rfl, hr2, ho2⟩
  have HR2 := Hid.mk' hr2
  have HO2 := Hid.mk' ho2
  obtain ⟨n, HN⟩ : ∃ n, Hid (n = (rdAt s a).1) := ⟨_, rfl⟩
  rw [← HN.out] at hl ⊢
  have n64 : (n : Int) < 18446744073709551616 := by omega
  have HL := Hid.mk' hl
  clear hr2 ho2 hl ha hs h
  obtain ⟨E, HE⟩ : ∃ E, Hid (E = (rdAt s a).2.1) := ⟨_, rfl⟩
  rw [← HE.out]
  by_cases h1 : n % 2 = 1
  · have hand : bits .and .u64 (n : Int) 1 = 1 := by
      rw [show (1 : Int) = ((1 : Nat) : Int) from rfl, u64_and_nat _ _ HL.out (by omega), Nat.and_one_is_mod, h1]
    have HZ : Hid (Code.zag n = -((n / 2 : Nat) : Int) - 1) := if_pos h1
    clear h1
    go_wp2_with fail
    go_ret2
    exact ⟨ret_tup2 (val_int (by rw [← HN.out, HZ.out]; omega)) (val_int (by rw [HE.out])), HR2.out, HO2.out⟩
  · have hand : bits .and .u64 (n : Int) 1 = 0 := by
      rw [show (1 : Int) = ((1 : Nat) : Int) from rfl, u64_and_nat _ _ HL.out (by omega), Nat.and_one_is_mod, show n % 2 = 0 by omega]
      rfl
    have HZ : Hid (Code.zag n = ((n / 2 : Nat) : Int)) := if_neg h1
    clear h1
    go_wp2_with fail
    go_ret2
    exact ⟨ret_tup2 (val_int (by rw [← HN.out, HZ.out]; omega)) (val_int (by rw [HE.out])), HR2.out, HO2.out⟩
end Go.Proofs.Ytchhdkmflppjhaa
