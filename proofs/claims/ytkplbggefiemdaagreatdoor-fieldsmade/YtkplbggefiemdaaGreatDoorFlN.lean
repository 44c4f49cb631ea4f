/-
  object: what flatten hands over, of a right value. Conditions: as each says.
-/
import Derived.Test.YtkplbggefiemdaaGreatDoorItA
import Derived.Test.YtkplbggefiemdaaGreatDoorObZC
import Derived.Stop.RegionWithIn
namespace Go.Proofs.YtkplbggefiemdaaGreatDoor
open Go.RowKit Go.Shelf
set_option linter.unusedVariables false
set_option linter.unusedSimpArgs false
attribute [local go_sem] Oper.semAt_some
def plN (k : Nat) (t : ByteArray) : List Nat := if k = 1 then [110, 117, 108, 108] else if k = 2 then [102, 97, 108, 115, 101] else if k = 3 then [116, 114, 117, 101] else Sums.bl t
/-- the path of an element -/
def pthL (p : List Nat) (i : Nat) : List Nat := ((p ++ [91]) ++ dec i) ++ [93]
/-- the path of what has a name -/
def pthO (p : List Nat) (ns : List ByteArray) (i : Nat) : List Nat := (if p = [] then [] else p ++ [46]) ++ Sums.bl (ns.getD i ByteArray.empty)
mutual
/-- the plain things in a value at a path: their paths and their texts -/
def flV : Vl → List Nat → List (List Nat × List Nat)
  | .mk k t ns ks, p => if k = 6 then flK ks (pthL p) 0 else if k = 7 then flK ks (pthO p ns) 0 else [(p, plN k t)]
def flK : List Vl → (Nat → List Nat) → Nat → List (List Nat × List Nat)
  | [], _, _ => []
  | v :: vs, f, i => flV v (f i) ++ flK vs f (i + 1)
end
theorem flK_snoc (f : Nat → List Nat) (u : Vl) : ∀ (l : List Vl) (i : Nat), flK (l ++ [u]) f i = flK l f i ++ flV u (f (i + l.length))
  | [], i => by
    rw [List.nil_append, flK, flK, flK, List.nil_append, List.append_nil]; rfl
  | v :: vs, i => by
    rw [List.cons_append, flK, flK, flK_snoc f u vs (i + 1), List.append_assoc, List.length_cons, show i + 1 + vs.length = i + (vs.length + 1) by omega]
theorem flK_take (f : Nat → List Nat) (ks : List Vl) (i : Nat) (u : Vl) (hu : ks[i]? = some u) : flK (ks.take (i + 1)) f 0 = flK (ks.take i) f 0 ++ flV u (f i) := by
  have hi := (List.getElem?_eq_some_iff.1 hu).1
  rw [List.take_add_one, hu]
  show flK (ks.take i ++ [u]) f 0 = _
  rw [flK_snoc, List.length_take, show 0 + min i ks.length = i by omega]
theorem flK_pre (f : Nat → List Nat) : ∀ (ks : List Vl) (i j : Nat), flK (ks.take i) f j <+: flK ks f j
  | [], i, j => by rw [List.take_nil]; exact List.prefix_refl _
  | v :: vs, 0, j => by rw [List.take_zero, flK]; exact List.nil_prefix
  | v :: vs, i + 1, j => by
    rw [List.take_succ_cons, flK, flK]
    exact (List.prefix_append_right_inj _).2 (flK_pre f vs i (j + 1))
/-- how flatten ends -/
def FlPost (D : Nat → Prop) (WH : List (List Nat × List Nat)) (J Jx : List (List Nat × List Nat) → World → Prop) (V : World) (res : List (List Nat × List Nat)) (e : Ending) (Y : World) : Prop :=
  (e = .returned (.bool true) ∧ J res Y ∧ KpD D V Y) ∨ (e = .returned (.bool false) ∧ ∃ pre, pre <+: WH ∧ Jx pre Y)
theorem KpD.of {D : Nat → Prop} {W W' : World} (h : Below W.heap.size W W') (hD : ∀ k, D k → k < W.heap.size) : KpD D W W' := ⟨KpT.of h, fun k hk => h.block k (hD k hk), h.size⟩
theorem VlAt.kd {D : Nat → Prop} {W W' : World} {v : Vl} {cs : Array Value} (h : VlAt D W v cs) (hk : KpD D W W') : VlAt D W' v cs := VlAt.keep (fun _ x => x) (fun k hd _ => hk.2.1 k hd) hk.2.2 v cs h
theorem FlPost.bool {D : Nat → Prop} {WH : List (List Nat × List Nat)} {J Jx : List (List Nat × List Nat) → World → Prop} {V : World} {res : List (List Nat × List Nat)} {e : Ending} {Y : World} (h : FlPost D WH J Jx V res e Y) : ∃ b, e = .returned (.bool b) := h.elim (fun k => ⟨true, k.1⟩) (fun k => ⟨false, k.1⟩)
theorem FlPost.yes {D : Nat → Prop} {WH : List (List Nat × List Nat)} {J Jx : List (List Nat × List Nat) → World → Prop} {V : World} {res : List (List Nat × List Nat)} {Y : World} (h : FlPost D WH J Jx V res (.returned (.bool true)) Y) : J res Y ∧ KpD D V Y := h.elim (fun k => k.2) (fun k => absurd k.1 (by simp))
theorem FlPost.no {D : Nat → Prop} {WH : List (List Nat × List Nat)} {J Jx : List (List Nat × List Nat) → World → Prop} {V : World} {res : List (List Nat × List Nat)} {Y : World} (h : FlPost D WH J Jx V res (.returned (.bool false)) Y) : ∃ pre, pre <+: WH ∧ Jx pre Y := h.elim (fun k => absurd k.1 (by simp)) (fun k => k.2)
set_option maxRecDepth 100000 in
set_option maxHeartbeats 8000000 in
theorem flat_leaf4 (q l : Nat) (D : Nat → Prop) (WH : List (List Nat × List Nat)) (J Jx : List (List Nat × List Nat) → World → Prop)
    (hJb : ∀ pre X Y, J pre X → Below X.heap.size X Y → J pre Y)
    (hY : ∀ m pre x X, J pre X → pre ++ [x] <+: WH → YieldAt Fence.wide m Tryz.prog l (encP x) X fun e Y =>
      (e = .returned (.bool true) ∧ J (pre ++ [x]) Y ∧ KpD D X Y) ∨ (e = .returned (.bool false) ∧ Jx (pre ++ [x]) Y))
    (t P : ByteArray) (pn pk : Option Addr) (nn cn nk ck : Nat) (V : World) (pre : List (List Nat × List Nat)) (hD : ∀ j, D j → j < V.heap.size) (hJ : J pre V) (hp : pre ++ [(Sums.bl P, Sums.bl t)] <+: WH) :
    CallsIn Fence.wide q Tryz.prog 41 #[.agg #[.int .i64 4, .string t, .slice pn nn cn, .slice pk nk ck], .string P, .func (.yield l) #[] #[]] V (FlPost D WH J Jx V (pre ++ [(Sums.bl P, Sums.bl t)])) := by
  have HPR := Hid.mk' hp
  have HB : Hid (∀ o : Obj, Below V.heap.size V (V.alloc o)) := Hid.mk' (fun o => (Below.refl _ V).alloc (Nat.le_refl _) o)
  have HY : Hid (∀ Y, Below V.heap.size V Y → YieldAt Fence.wide (q - 1) Tryz.prog l #[.string P, .string t] Y fun e Z => FlPost D WH J Jx V (pre ++ [(Sums.bl P, Sums.bl t)]) e Z) := Hid.mk' (fun Y hy => by
    have h1 := hY (q - 1) pre (Sums.bl P, Sums.bl t) Y (hJb _ _ _ hJ hy) hp
    dsimp only [encP] at h1
    rw [nums_bl, nums_bl] at h1
    exact h1.mono fun e Z h => h.imp (fun k => ⟨k.1, k.2.1, (KpD.of hy hD).t k.2.2⟩) (fun k => ⟨k.1, _, hp, k.2⟩))
  clear hJb hY hJ hp hD
  refine callsIn_of_wp Tryz.func41 rfl trivial ?_ rfl
  simp only [Tryz.ntmps41, List.size_toArray, List.length_cons, List.length_nil, Nat.reduceAdd, Nat.reduceSub, Array.replicate_succ, Array.replicate_zero, List.push_toArray, List.append_toArray, List.nil_append, List.cons_append]
  gi_wp2
  refine ⟨trivial, dep, (callsIn_wide.2 (plainText4 t pn pk nn cn nk ck _)).mono ?_⟩
  rintro e w5 ⟨rfl, hb5⟩
  have hb6 := (HB.out _).trans ⟨hb5.os, hb5.tape, hb5.output, hb5.size, fun j hj => hb5.block j (by rw [World.size_alloc]; omega)⟩
  obtain ⟨fn, tmps, assign, body, hyy, hRR⟩ := HY.out w5 hb6
  clear hb5 hb6 HB HY
  gi_wp2
  refine ⟨dep, hRR.mono ?_⟩
  rintro e Z h
  have HZ := Hid.mk' h
  rcases h with ⟨rfl, _⟩ | ⟨rfl, _⟩
  · gi_wp2
    go_ret
    exact HZ.out
  · gi_wp2
    go_ret
    exact HZ.out
set_option maxRecDepth 100000 in
set_option maxHeartbeats 8000000 in
theorem flat_leaf5 (q l : Nat) (D : Nat → Prop) (WH : List (List Nat × List Nat)) (J Jx : List (List Nat × List Nat) → World → Prop)
    (hJb : ∀ pre X Y, J pre X → Below X.heap.size X Y → J pre Y)
    (hY : ∀ m pre x X, J pre X → pre ++ [x] <+: WH → YieldAt Fence.wide m Tryz.prog l (encP x) X fun e Y =>
      (e = .returned (.bool true) ∧ J (pre ++ [x]) Y ∧ KpD D X Y) ∨ (e = .returned (.bool false) ∧ Jx (pre ++ [x]) Y))
    (t P : ByteArray) (pn pk : Option Addr) (nn cn nk ck : Nat) (V : World) (pre : List (List Nat × List Nat)) (hD : ∀ j, D j → j < V.heap.size) (hJ : J pre V) (hp : pre ++ [(Sums.bl P, Sums.bl t)] <+: WH) :
    CallsIn Fence.wide q Tryz.prog 41 #[.agg #[.int .i64 5, .string t, .slice pn nn cn, .slice pk nk ck], .string P, .func (.yield l) #[] #[]] V (FlPost D WH J Jx V (pre ++ [(Sums.bl P, Sums.bl t)])) := by
  have HPR := Hid.mk' hp
  have HB : Hid (∀ o : Obj, Below V.heap.size V (V.alloc o)) := Hid.mk' (fun o => (Below.refl _ V).alloc (Nat.le_refl _) o)
  have HY : Hid (∀ Y, Below V.heap.size V Y → YieldAt Fence.wide (q - 1) Tryz.prog l #[.string P, .string t] Y fun e Z => FlPost D WH J Jx V (pre ++ [(Sums.bl P, Sums.bl t)]) e Z) := Hid.mk' (fun Y hy => by
    have h1 := hY (q - 1) pre (Sums.bl P, Sums.bl t) Y (hJb _ _ _ hJ hy) hp
    dsimp only [encP] at h1
    rw [nums_bl, nums_bl] at h1
    exact h1.mono fun e Z h => h.imp (fun k => ⟨k.1, k.2.1, (KpD.of hy hD).t k.2.2⟩) (fun k => ⟨k.1, _, hp, k.2⟩))
  clear hJb hY hJ hp hD
  refine callsIn_of_wp Tryz.func41 rfl trivial ?_ rfl
  simp only [Tryz.ntmps41, List.size_toArray, List.length_cons, List.length_nil, Nat.reduceAdd, Nat.reduceSub, Array.replicate_succ, Array.replicate_zero, List.push_toArray, List.append_toArray, List.nil_append, List.cons_append]
  gi_wp2
  refine ⟨trivial, dep, (callsIn_wide.2 (plainText5 t pn pk nn cn nk ck _)).mono ?_⟩
  rintro e w5 ⟨rfl, hb5⟩
  have hb6 := (HB.out _).trans ⟨hb5.os, hb5.tape, hb5.output, hb5.size, fun j hj => hb5.block j (by rw [World.size_alloc]; omega)⟩
  obtain ⟨fn, tmps, assign, body, hyy, hRR⟩ := HY.out w5 hb6
  clear hb5 hb6 HB HY
  gi_wp2
  refine ⟨dep, hRR.mono ?_⟩
  rintro e Z h
  have HZ := Hid.mk' h
  rcases h with ⟨rfl, _⟩ | ⟨rfl, _⟩
  · gi_wp2
    go_ret
    exact HZ.out
  · gi_wp2
    go_ret
    exact HZ.out
end Go.Proofs.YtkplbggefiemdaaGreatDoor
