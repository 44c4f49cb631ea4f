/-
  Rows of bytes beside one another: one grows, the others stay. Conditions: as each says.
-/
import Derived.Test.YtchjmhgalbkjkaaRff
import Derived.Maps.AppendAt
namespace Go.Proofs.Ytchjmhgalbkjkaa
open Go.RowKit
set_option linter.unusedVariables false
def Away (o r : Value) : Prop := ∀ k, o.ownBlock = some k → r.ownBlock ≠ some k
theorem away_nil (o : Value) : Away o (.slice none 0 0) := fun k _ h => by simp [Value.ownBlock] at h
theorem away_next {w w' : World} {base2 n : Nat} {o o' r : Value} {xs : List Value} (hr : w.ownsRow base2 5 1 r n xs) (ha : Away o r) (hg : w.grownBy w' o.ownBlock) (hat : o'.ownBlock = o.ownBlock ∨ o'.ownBlock = some w.heap.size) : w'.ownsRow base2 5 1 r n xs ∧ Away o' r := by
  refine ⟨row_kept hr fun k hk => hg.block k (hr.lt k hk).2 (fun e => ha k e.symm hk), fun k hk hk2 => ?_⟩
  rcases hat with h | h
  · exact ha k (by rw [← h]; exact hk) hk2
  · rw [h] at hk
    simp only [Option.some.injEq] at hk
    have := (hr.lt k hk2).2
    omega
/-- a row that is new is none of the elder ones -/
theorem away_new {w w' : World} {base n m : Nat} {o r : Value} {xs ys : List Value} {B : Nat} (ho : w.ownsRow base 5 1 o n xs) (hr : w'.ownsRow B 5 1 r m ys) (hB : w.heap.size ≤ B) : Away o r := fun k h1 h2 => by
  have a := (ho.lt k h1).2
  have b := (hr.lt k h2).1
  omega
theorem Ap.low {b c : Nat} {w w' : World} (h : Ap b w w') (hc : c ≤ b) : Ap c w w' := ⟨⟨h.below.os, h.below.tape, h.below.output, h.below.size, fun k hk => h.below.block k (by omega)⟩, h.keep⟩
theorem row_through {w w' : World} {base n : Nat} {v : Value} {xs : List Value} (h : w.ownsRow base 5 1 v n xs) (hb : Below w.heap.size w w') : w'.ownsRow base 5 1 v n xs := row_kept h fun k hk => hb.block k (h.lt k hk).2
theorem wpList_append_rows_at {w : World} {ops : Array Oper} {rest : List Oper} {o : Oper} {a : Act} {Q : Exit → Act → World → Prop} (hgd : o.guard = none) (s x : Operand)
    (ho : o.op = .call { callee := .builtin .append, args := #[s, x], argTypes := #[58, 58] })
    (base : Nat) (v : Value) (n : Nat) (xs : List Value) (hs : a.eval s = v) (hown : w.ownsRow base 5 1 v n xs)
    (base2 : Nat) (v2 : Value) (l : List Nat) (hx : a.eval x = v2) (hown2 : w.ownsRow base2 5 1 v2 l.length (byv l))
    (h63 : n + l.length ≤ maxLen) (hbytes : n + l.length ≤ 140737488355328) (hbase : base ≤ w.heap.size)
    (h : ∀ v' w', w'.ownsRow base 5 1 v' (n + l.length) (xs ++ byv l) → w.grownBy w' v.ownBlock → (v'.ownBlock = v.ownBlock ∨ v'.ownBlock = some w.heap.size) → wpList Try.prog ops Q rest (a.put o.dst v') w') : wpList Try.prog ops Q (o :: rest) a w := by
  obtain ⟨i0, hi, hz0, hz1, hz2⟩ := info_parts infoB
  rcases hown2.2 with ⟨rfl, h0⟩ | ⟨g, cap, cur, rfl, h1, h2, h3⟩
  · obtain rfl : l = [] := List.length_eq_zero_iff.1 h0
    refine wpList_append_own_none hgd s x 58 ho base 5 i0 1 Try.underlying58 hi v n xs hs hown hx ?_
    refine h v w ?_ ⟨rfl, rfl, rfl, Nat.le_refl _, fun _ _ _ => rfl⟩ (.inl rfl)
    simpa [byv] using hown
  · refine wpList_append_own_at w hgd s x 58 ho base 5 i0 (.int .u8 0) 1 1 Try.underlying58 hi hz0 hz1 hz2 rfl (by decide) v n xs hs hown ⟨g, 0, none⟩ l.length cap (byv l) hx (by unfold byv; simp) (fun j u hu => ?_) (byv_one l) h63 (by omega) hbase (fun v' w' q1 q2 _ q4 => h v' w' q1 q2 q4)
    exact hown2.cells (g := g) rfl j u hu
theorem append_string_at {P : Program} (w : World) (base : Nat) (t u ty e : TypeId) (i : TypeInfo) (ht : P.underlying t = some (.slice e)) (hu : P.underlying u = some .string) (hi : P.info? e = some i) (hz : i.zero = some (.int .u8 0))
    (hsize : i.size = 1) (hby : i.bytes = 1) (v : Value) (n : Nat) (xs : List Value) (hown : w.ownsRow base e 1 v n xs) (s : ByteArray) (h63 : n + s.size ≤ maxLen) (hbytes : n + s.size ≤ 140737488355328)
    {v' : Value} {w' : World} (h : (Builtin.append_ #[t, u] ty #[v, .string s]).run P w = .ok v' w') : v'.ownBlock = v.ownBlock ∨ v'.ownBlock = some w.heap.size := by
  have hsmall : n + s.size ≤ 9223372036854775807 := by simp only [maxLen] at h63; omega
  have hxl : xs.length = n := by simpa using hown.1
  rcases hown.2 with ⟨rfl, rfl⟩ | ⟨g, cap, cur, rfl, hbg, hg, hnc, hcm, hcs, htake⟩
  · by_cases hm : s.size = 0
    · have hf := Go.Lib.run_firstCells_string (P := P) w 1 s
      rw [hm] at hf
      have hr : (Builtin.append_ #[t, u] ty #[.slice none 0 0, .string s]).run P w = .ok (.slice none 0 0) w := by
        have hn : Go.Lib.strCells s = [] := List.eq_nil_of_length_eq_zero (by rw [Go.Lib.strCells_length]; exact hm)
        simp [Builtin.append_, run_underlying ht, run_underlying hu, sizeOf, typeInfo, hi, hsize, Builtin.lenOf, hm, hf]
      rw [hr] at h
      simp only [Result.ok.injEq] at h
      exact .inl (by rw [← h.1])
    · have hr := run_append_nil_string (P := P) w t u ty e i (.int .u8 0) ht hu hi hz s (by omega) (by omega) (by rw [hby]; omega)
      rw [hr] at h
      simp only [Result.ok.injEq] at h
      exact .inr (by rw [← h.1]; rfl)
  · by_cases hroom : n + s.size ≤ cap
    · have hcs' : cur.size = cap := by simpa using hcs
      have hr := Go.Lib.run_append_room_string (P := P) w t u ty e i ht hu hi hsize g n cap cur hg s hroom (by omega)
      rw [hr] at h
      simp only [Result.ok.injEq] at h
      exact .inl (by rw [← h.1]; rfl)
    · have holds : ∀ j u, xs[j]? = some u → w.cell? ((⟨g, 0, none⟩ : Addr).add j) = some u := hown.cells (g := g) rfl
      have hr := Go.Lib.run_append_grow_string (P := P) w t u ty e i (.int .u8 0) ht hu hi hz ⟨g, 0, none⟩ n cap xs (by rw [hsize]; simpa using hxl) holds s (by omega) (by omega) (by rw [hby]; exact growslice_fits (by omega) (by omega))
      rw [hr] at h
      simp only [Result.ok.injEq] at h
      exact .inr (by rw [← h.1]; rfl)
theorem wpList_append_string_at {P : Program} (w : World) {ops : Array Oper} {rest : List Oper} {o : Oper} {a : Act} {Q : Exit → Act → World → Prop} (hgd : o.guard = none) (sl x : Operand) (t u : TypeId)
    (ho : o.op = .call { callee := .builtin .append, args := #[sl, x], argTypes := #[t, u] })
    (base : Nat) (e : TypeId) (i : TypeInfo) (ht : P.underlying t = some (.slice e)) (hu : P.underlying u = some .string) (hi : P.info? e = some i) (hz : i.zero = some (.int .u8 0))
    (hsize : i.size = 1) (hby : i.bytes = 1)
    (v : Value) (n : Nat) (xs : List Value) (hs : a.eval sl = v) (hown : w.ownsRow base e 1 v n xs) (s : ByteArray) (hx : a.eval x = .string s)
    (h63 : n + s.size ≤ maxLen) (hbytes : n + s.size ≤ 140737488355328) (hbase : base ≤ w.heap.size)
    (h : ∀ v' w', w'.ownsRow base e 1 v' (n + s.size) (xs ++ Go.Lib.strCells s) → w.grownBy w' v.ownBlock → (v'.ownBlock = v.ownBlock ∨ v'.ownBlock = some w.heap.size) → wpList P ops Q rest (a.put o.dst v') w') : wpList P ops Q (o :: rest) a w := by
  refine wpList_plain hgd fun K hK => ?_
  obtain ⟨v', w', hr, h2, h3, h4⟩ := Go.Lib.run_append_own_string (P := P) w base t u o.type e i ht hu hi hz hsize hby v n xs hown s h63 hbytes hbase
  have h5 := append_string_at (P := P) w base t u o.type e i ht hu hi hz hsize hby v n xs hown s h63 hbytes hr
  unfold Oper.wp execOp
  simp only [ho, resolve, invoke, builtin, Sem.run_bind, Sem.run_pure, Result.andThen_ok, List.map_toArray, List.map_cons, List.map_nil, hs, hx, hr]
  exact hK _ _ (h v' w' h2 h3 h5)
end Go.Proofs.Ytchjmhgalbkjkaa
