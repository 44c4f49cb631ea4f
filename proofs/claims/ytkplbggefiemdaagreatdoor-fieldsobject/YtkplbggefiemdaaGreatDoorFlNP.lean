/-
  object.Flat: leaves, lists, objects. Conditions: as each says.
-/
import Derived.Test.YtkplbggefiemdaaGreatDoorItA
import Derived.Test.YtkplbggefiemdaaGreatDoorObZC
import Derived.Stop.RegionWithIn
namespace Go.Proofs.YtkplbggefiemdaaGreatDoor
open Go.RowKit Go.Shelf
set_option linter.unusedVariables false
set_option linter.unusedSimpArgs false
attribute [local go_sem] Oper.semAt_some
def plN (k : Nat) (t : ByteArray) : List Nat := if k = 1 then [110, 117, 108, 108] else if k = 2 then [102, 97, 108, 115, 101] else if k = 3 then [116, 114, 117, 101] else Sums.bl t
/-- the path of an element -/
def pthL (p : List Nat) (i : Nat) : List Nat := ((p ++ [91]) ++ dec i) ++ [93]
/-- the path of what has a name -/
def pthO (p : List Nat) (ns : List ByteArray) (i : Nat) : List Nat := (if p = [] then [] else p ++ [46]) ++ Sums.bl (ns.getD i ByteArray.empty)
mutual
/-- the plain things in a value at a path: their paths and their texts -/
def flV : Vl → List Nat → List (List Nat × List Nat)
  | .mk k t ns ks, p => if k = 6 then flK ks (pthL p) 0 else if k = 7 then flK ks (pthO p ns) 0 else [(p, plN k t)]
def flK : List Vl → (Nat → List Nat) → Nat → List (List Nat × List Nat)
  | [], _, _ => []
  | v :: vs, f, i => flV v (f i) ++ flK vs f (i + 1)
end
theorem flK_snoc (f : Nat → List Nat) (u : Vl) : ∀ (l : List Vl) (i : Nat), flK (l ++ [u]) f i = flK l f i ++ flV u (f (i + l.length))
  | [], i => by
    rw [List.nil_append, flK, flK, flK, List.nil_append, List.append_nil]; rfl
  | v :: vs, i => by
    rw [List.cons_append, flK, flK, flK_snoc f u vs (i + 1), List.append_assoc, List.length_cons, show i + 1 + vs.length = i + (vs.length + 1) by omega]
theorem flK_take (f : Nat → List Nat) (ks : List Vl) (i : Nat) (u : Vl) (hu : ks[i]? = some u) : flK (ks.take (i + 1)) f 0 = flK (ks.take i) f 0 ++ flV u (f i) := by
  have hi := (List.getElem?_eq_some_iff.1 hu).1
  rw [List.take_add_one, hu]
  show flK (ks.take i ++ [u]) f 0 = _
  rw [flK_snoc, List.length_take, show 0 + min i ks.length = i by omega]
theorem flK_pre (f : Nat → List Nat) : ∀ (ks : List Vl) (i j : Nat), flK (ks.take i) f j <+: flK ks f j
  | [], i, j => by rw [List.take_nil]; exact List.prefix_refl _
  | v :: vs, 0, j => by rw [List.take_zero, flK]; exact List.nil_prefix
  | v :: vs, i + 1, j => by
    rw [List.take_succ_cons, flK, flK]
    exact (List.prefix_append_right_inj _).2 (flK_pre f vs i (j + 1))
/-- how flatten ends -/
def FlPost (D : Nat → Prop) (WH : List (List Nat × List Nat)) (J Jx : List (List Nat × List Nat) → World → Prop) (V : World) (res : List (List Nat × List Nat)) (e : Ending) (Y : World) : Prop :=
  (e = .returned (.bool true) ∧ J res Y ∧ KpD D V Y) ∨ (e = .returned (.bool false) ∧ ∃ pre, pre <+: WH ∧ Jx pre Y)
theorem KpD.of {D : Nat → Prop} {W W' : World} (h : Below W.heap.size W W') (hD : ∀ k, D k → k < W.heap.size) : KpD D W W' := ⟨KpT.of h, fun k hk => h.block k (hD k hk), h.size⟩
theorem VlAt.kd {D : Nat → Prop} {W W' : World} {v : Vl} {cs : Array Value} (h : VlAt D W v cs) (hk : KpD D W W') : VlAt D W' v cs := VlAt.keep (fun _ x => x) (fun k hd _ => hk.2.1 k hd) hk.2.2 v cs h
theorem FlPost.bool {D : Nat → Prop} {WH : List (List Nat × List Nat)} {J Jx : List (List Nat × List Nat) → World → Prop} {V : World} {res : List (List Nat × List Nat)} {e : Ending} {Y : World} (h : FlPost D WH J Jx V res e Y) : ∃ b, e = .returned (.bool b) := h.elim (fun k => ⟨true, k.1⟩) (fun k => ⟨false, k.1⟩)
theorem FlPost.yes {D : Nat → Prop} {WH : List (List Nat × List Nat)} {J Jx : List (List Nat × List Nat) → World → Prop} {V : World} {res : List (List Nat × List Nat)} {Y : World} (h : FlPost D WH J Jx V res (.returned (.bool true)) Y) : J res Y ∧ KpD D V Y := h.elim (fun k => k.2) (fun k => absurd k.1 (by simp))
theorem FlPost.no {D : Nat → Prop} {WH : List (List Nat × List Nat)} {J Jx : List (List Nat × List Nat) → World → Prop} {V : World} {res : List (List Nat × List Nat)} {Y : World} (h : FlPost D WH J Jx V res (.returned (.bool false)) Y) : ∃ pre, pre <+: WH ∧ Jx pre Y := h.elim (fun k => absurd k.1 (by simp)) (fun k => k.2)
set_option maxRecDepth 100000 in
set_option maxHeartbeats 8000000 in
theorem flat_leaf1 (q l : Nat) (D : Nat → Prop) (WH : List (List Nat × List Nat)) (J Jx : List (List Nat × List Nat) → World → Prop)
    (hJb : ∀ pre X Y, J pre X → Below X.heap.size X Y → J pre Y)
    (hY : ∀ m pre x X, J pre X → pre ++ [x] <+: WH → YieldAt Fence.wide m Tryz.prog l (encP x) X fun e Y =>
      (e = .returned (.bool true) ∧ J (pre ++ [x]) Y ∧ KpD D X Y) ∨ (e = .returned (.bool false) ∧ Jx (pre ++ [x]) Y))
    (t P : ByteArray) (pn pk : Option Addr) (nn cn nk ck : Nat) (V : World) (pre : List (List Nat × List Nat)) (hD : ∀ j, D j → j < V.heap.size) (hJ : J pre V) (hp : pre ++ [(Sums.bl P, Sums.bl (⟨#[110, 117, 108, 108]⟩ : ByteArray))] <+: WH) :
    CallsIn Fence.wide q Tryz.prog 41 #[.agg #[.int .i64 1, .string t, .slice pn nn cn, .slice pk nk ck], .string P, .func (.yield l) #[] #[]] V (FlPost D WH J Jx V (pre ++ [(Sums.bl P, Sums.bl (⟨#[110, 117, 108, 108]⟩ : ByteArray))])) := by
  have HPR := Hid.mk' hp
  have HB : Hid (∀ o : Obj, Below V.heap.size V (V.alloc o)) := Hid.mk' (fun o => (Below.refl _ V).alloc (Nat.le_refl _) o)
  have HY : Hid (∀ Y, Below V.heap.size V Y → YieldAt Fence.wide (q - 1) Tryz.prog l #[.string P, .string (⟨#[110, 117, 108, 108]⟩ : ByteArray)] Y fun e Z => FlPost D WH J Jx V (pre ++ [(Sums.bl P, Sums.bl (⟨#[110, 117, 108, 108]⟩ : ByteArray))]) e Z) := Hid.mk' (fun Y hy => by
    have h1 := hY (q - 1) pre (Sums.bl P, Sums.bl (⟨#[110, 117, 108, 108]⟩ : ByteArray)) Y (hJb _ _ _ hJ hy) hp
    dsimp only [encP] at h1
    rw [nums_bl, nums_bl] at h1
    exact h1.mono fun e Z h => h.imp (fun k => ⟨k.1, k.2.1, (KpD.of hy hD).t k.2.2⟩) (fun k => ⟨k.1, _, hp, k.2⟩))
  clear hJb hY hJ hp hD
  refine callsIn_of_wp Tryz.func41 rfl trivial ?_ rfl
  simp only [Tryz.ntmps41, List.size_toArray, List.length_cons, List.length_nil, Nat.reduceAdd, Nat.reduceSub, Array.replicate_succ, Array.replicate_zero, List.push_toArray, List.append_toArray, List.nil_append, List.cons_append]
  gi_wp2
  refine ⟨trivial, dep, (callsIn_wide.2 (plainText1 t pn pk nn cn nk ck _)).mono ?_⟩
  rintro e w5 ⟨rfl, hb5⟩
  have hb6 := (HB.out _).trans ⟨hb5.os, hb5.tape, hb5.output, hb5.size, fun j hj => hb5.block j (by rw [World.size_alloc]; omega)⟩
  obtain ⟨fn, tmps, assign, body, hyy, hRR⟩ := HY.out w5 hb6
  clear hb5 hb6 HB HY
  gi_wp2
  refine ⟨dep, hRR.mono ?_⟩
  rintro e Z h
  have HZ := Hid.mk' h
  rcases h with ⟨rfl, _⟩ | ⟨rfl, _⟩
  · gi_wp2
    go_ret
    exact HZ.out
  · gi_wp2
    go_ret
    exact HZ.out
set_option maxRecDepth 100000 in
set_option maxHeartbeats 8000000 in
theorem flat_leaf2 (q l : Nat) (D : Nat → Prop) (WH : List (List Nat × List Nat)) (J Jx : List (List Nat × List Nat) → World → Prop)
    (hJb : ∀ pre X Y, J pre X → Below X.heap.size X Y → J pre Y)
    (hY : ∀ m pre x X, J pre X → pre ++ [x] <+: WH → YieldAt Fence.wide m Tryz.prog l (encP x) X fun e Y =>
      (e = .returned (.bool true) ∧ J (pre ++ [x]) Y ∧ KpD D X Y) ∨ (e = .returned (.bool false) ∧ Jx (pre ++ [x]) Y))
    (t P : ByteArray) (pn pk : Option Addr) (nn cn nk ck : Nat) (V : World) (pre : List (List Nat × List Nat)) (hD : ∀ j, D j → j < V.heap.size) (hJ : J pre V) (hp : pre ++ [(Sums.bl P, Sums.bl (⟨#[102, 97, 108, 115, 101]⟩ : ByteArray))] <+: WH) :
    CallsIn Fence.wide q Tryz.prog 41 #[.agg #[.int .i64 2, .string t, .slice pn nn cn, .slice pk nk ck], .string P, .func (.yield l) #[] #[]] V (FlPost D WH J Jx V (pre ++ [(Sums.bl P, Sums.bl (⟨#[102, 97, 108, 115, 101]⟩ : ByteArray))])) := by
  have HPR := Hid.mk' hp
  have HB : Hid (∀ o : Obj, Below V.heap.size V (V.alloc o)) := Hid.mk' (fun o => (Below.refl _ V).alloc (Nat.le_refl _) o)
  have HY : Hid (∀ Y, Below V.heap.size V Y → YieldAt Fence.wide (q - 1) Tryz.prog l #[.string P, .string (⟨#[102, 97, 108, 115, 101]⟩ : ByteArray)] Y fun e Z => FlPost D WH J Jx V (pre ++ [(Sums.bl P, Sums.bl (⟨#[102, 97, 108, 115, 101]⟩ : ByteArray))]) e Z) := Hid.mk' (fun Y hy => by
    have h1 := hY (q - 1) pre (Sums.bl P, Sums.bl (⟨#[102, 97, 108, 115, 101]⟩ : ByteArray)) Y (hJb _ _ _ hJ hy) hp
    dsimp only [encP] at h1
    rw [nums_bl, nums_bl] at h1
    exact h1.mono fun e Z h => h.imp (fun k => ⟨k.1, k.2.1, (KpD.of hy hD).t k.2.2⟩) (fun k => ⟨k.1, _, hp, k.2⟩))
  clear hJb hY hJ hp hD
  refine callsIn_of_wp Tryz.func41 rfl trivial ?_ rfl
  simp only [Tryz.ntmps41, List.size_toArray, List.length_cons, List.length_nil, Nat.reduceAdd, Nat.reduceSub, Array.replicate_succ, Array.replicate_zero, List.push_toArray, List.append_toArray, List.nil_append, List.cons_append]
  gi_wp2
  refine ⟨trivial, dep, (callsIn_wide.2 (plainText2 t pn pk nn cn nk ck _)).mono ?_⟩
  rintro e w5 ⟨rfl, hb5⟩
  have hb6 := (HB.out _).trans ⟨hb5.os, hb5.tape, hb5.output, hb5.size, fun j hj => hb5.block j (by rw [World.size_alloc]; omega)⟩
  obtain ⟨fn, tmps, assign, body, hyy, hRR⟩ := HY.out w5 hb6
  clear hb5 hb6 HB HY
  gi_wp2
  refine ⟨dep, hRR.mono ?_⟩
  rintro e Z h
  have HZ := Hid.mk' h
  rcases h with ⟨rfl, _⟩ | ⟨rfl, _⟩
  · gi_wp2
    go_ret
    exact HZ.out
  · gi_wp2
    go_ret
    exact HZ.out
set_option maxRecDepth 100000 in
set_option maxHeartbeats 8000000 in
theorem flat_leaf3 (q l : Nat) (D : Nat → Prop) (WH : List (List Nat × List Nat)) (J Jx : List (List Nat × List Nat) → World → Prop)
    (hJb : ∀ pre X Y, J pre X → Below X.heap.size X Y → J pre Y)
    (hY : ∀ m pre x X, J pre X → pre ++ [x] <+: WH → YieldAt Fence.wide m Tryz.prog l (encP x) X fun e Y =>
      (e = .returned (.bool true) ∧ J (pre ++ [x]) Y ∧ KpD D X Y) ∨ (e = .returned (.bool false) ∧ Jx (pre ++ [x]) Y))
    (t P : ByteArray) (pn pk : Option Addr) (nn cn nk ck : Nat) (V : World) (pre : List (List Nat × List Nat)) (hD : ∀ j, D j → j < V.heap.size) (hJ : J pre V) (hp : pre ++ [(Sums.bl P, Sums.bl (⟨#[116, 114, 117, 101]⟩ : ByteArray))] <+: WH) :
    CallsIn Fence.wide q Tryz.prog 41 #[.agg #[.int .i64 3, .string t, .slice pn nn cn, .slice pk nk ck], .string P, .func (.yield l) #[] #[]] V (FlPost D WH J Jx V (pre ++ [(Sums.bl P, Sums.bl (⟨#[116, 114, 117, 101]⟩ : ByteArray))])) := by
  have HPR := Hid.mk' hp
  have HB : Hid (∀ o : Obj, Below V.heap.size V (V.alloc o)) := Hid.mk' (fun o => (Below.refl _ V).alloc (Nat.le_refl _) o)
  have HY : Hid (∀ Y, Below V.heap.size V Y → YieldAt Fence.wide (q - 1) Tryz.prog l #[.string P, .string (⟨#[116, 114, 117, 101]⟩ : ByteArray)] Y fun e Z => FlPost D WH J Jx V (pre ++ [(Sums.bl P, Sums.bl (⟨#[116, 114, 117, 101]⟩ : ByteArray))]) e Z) := Hid.mk' (fun Y hy => by
    have h1 := hY (q - 1) pre (Sums.bl P, Sums.bl (⟨#[116, 114, 117, 101]⟩ : ByteArray)) Y (hJb _ _ _ hJ hy) hp
    dsimp only [encP] at h1
    rw [nums_bl, nums_bl] at h1
    exact h1.mono fun e Z h => h.imp (fun k => ⟨k.1, k.2.1, (KpD.of hy hD).t k.2.2⟩) (fun k => ⟨k.1, _, hp, k.2⟩))
  clear hJb hY hJ hp hD
  refine callsIn_of_wp Tryz.func41 rfl trivial ?_ rfl
  simp only [Tryz.ntmps41, List.size_toArray, List.length_cons, List.length_nil, Nat.reduceAdd, Nat.reduceSub, Array.replicate_succ, Array.replicate_zero, List.push_toArray, List.append_toArray, List.nil_append, List.cons_append]
  gi_wp2
  refine ⟨trivial, dep, (callsIn_wide.2 (plainText3 t pn pk nn cn nk ck _)).mono ?_⟩
  rintro e w5 ⟨rfl, hb5⟩
  have hb6 := (HB.out _).trans ⟨hb5.os, hb5.tape, hb5.output, hb5.size, fun j hj => hb5.block j (by rw [World.size_alloc]; omega)⟩
  obtain ⟨fn, tmps, assign, body, hyy, hRR⟩ := HY.out w5 hb6
  clear hb5 hb6 HB HY
  gi_wp2
  refine ⟨dep, hRR.mono ?_⟩
  rintro e Z h
  have HZ := Hid.mk' h
  rcases h with ⟨rfl, _⟩ | ⟨rfl, _⟩
  · gi_wp2
    go_ret
    exact HZ.out
  · gi_wp2
    go_ret
    exact HZ.out
set_option maxRecDepth 100000 in
set_option maxHeartbeats 8000000 in
theorem flat_leaf4 (q l : Nat) (D : Nat → Prop) (WH : List (List Nat × List Nat)) (J Jx : List (List Nat × List Nat) → World → Prop)
    (hJb : ∀ pre X Y, J pre X → Below X.heap.size X Y → J pre Y)
    (hY : ∀ m pre x X, J pre X → pre ++ [x] <+: WH → YieldAt Fence.wide m Tryz.prog l (encP x) X fun e Y =>
      (e = .returned (.bool true) ∧ J (pre ++ [x]) Y ∧ KpD D X Y) ∨ (e = .returned (.bool false) ∧ Jx (pre ++ [x]) Y))
    (t P : ByteArray) (pn pk : Option Addr) (nn cn nk ck : Nat) (V : World) (pre : List (List Nat × List Nat)) (hD : ∀ j, D j → j < V.heap.size) (hJ : J pre V) (hp : pre ++ [(Sums.bl P, Sums.bl t)] <+: WH) :
    CallsIn Fence.wide q Tryz.prog 41 #[.agg #[.int .i64 4, .string t, .slice pn nn cn, .slice pk nk ck], .string P, .func (.yield l) #[] #[]] V (FlPost D WH J Jx V (pre ++ [(Sums.bl P, Sums.bl t)])) := by
  have HPR := Hid.mk' hp
  have HB : Hid (∀ o : Obj, Below V.heap.size V (V.alloc o)) := Hid.mk' (fun o => (Below.refl _ V).alloc (Nat.le_refl _) o)
  have HY : Hid (∀ Y, Below V.heap.size V Y → YieldAt Fence.wide (q - 1) Tryz.prog l #[.string P, .string t] Y fun e Z => FlPost D WH J Jx V (pre ++ [(Sums.bl P, Sums.bl t)]) e Z) := Hid.mk' (fun Y hy => by
    have h1 := hY (q - 1) pre (Sums.bl P, Sums.bl t) Y (hJb _ _ _ hJ hy) hp
    dsimp only [encP] at h1
    rw [nums_bl, nums_bl] at h1
    exact h1.mono fun e Z h => h.imp (fun k => ⟨k.1, k.2.1, (KpD.of hy hD).t k.2.2⟩) (fun k => ⟨k.1, _, hp, k.2⟩))
  clear hJb hY hJ hp hD
  refine callsIn_of_wp Tryz.func41 rfl trivial ?_ rfl
  simp only [Tryz.ntmps41, List.size_toArray, List.length_cons, List.length_nil, Nat.reduceAdd, Nat.reduceSub, Array.replicate_succ, Array.replicate_zero, List.push_toArray, List.append_toArray, List.nil_append, List.cons_append]
  gi_wp2
  refine ⟨trivial, dep, (callsIn_wide.2 (plainText4 t pn pk nn cn nk ck _)).mono ?_⟩
  rintro e w5 ⟨rfl, hb5⟩
  have hb6 := (HB.out _).trans ⟨hb5.os, hb5.tape, hb5.output, hb5.size, fun j hj => hb5.block j (by rw [World.size_alloc]; omega)⟩
  obtain ⟨fn, tmps, assign, body, hyy, hRR⟩ := HY.out w5 hb6
  clear hb5 hb6 HB HY
  gi_wp2
  refine ⟨dep, hRR.mono ?_⟩
  rintro e Z h
  have HZ := Hid.mk' h
  rcases h with ⟨rfl, _⟩ | ⟨rfl, _⟩
  · gi_wp2
    go_ret
    exact HZ.out
  · gi_wp2
    go_ret
    exact HZ.out
set_option maxRecDepth 100000 in
set_option maxHeartbeats 8000000 in
theorem flat_leaf5 (q l : Nat) (D : Nat → Prop) (WH : List (List Nat × List Nat)) (J Jx : List (List Nat × List Nat) → World → Prop)
    (hJb : ∀ pre X Y, J pre X → Below X.heap.size X Y → J pre Y)
    (hY : ∀ m pre x X, J pre X → pre ++ [x] <+: WH → YieldAt Fence.wide m Tryz.prog l (encP x) X fun e Y =>
      (e = .returned (.bool true) ∧ J (pre ++ [x]) Y ∧ KpD D X Y) ∨ (e = .returned (.bool false) ∧ Jx (pre ++ [x]) Y))
    (t P : ByteArray) (pn pk : Option Addr) (nn cn nk ck : Nat) (V : World) (pre : List (List Nat × List Nat)) (hD : ∀ j, D j → j < V.heap.size) (hJ : J pre V) (hp : pre ++ [(Sums.bl P, Sums.bl t)] <+: WH) :
    CallsIn Fence.wide q Tryz.prog 41 #[.agg #[.int .i64 5, .string t, .slice pn nn cn, .slice pk nk ck], .string P, .func (.yield l) #[] #[]] V (FlPost D WH J Jx V (pre ++ [(Sums.bl P, Sums.bl t)])) := by
  have HPR := Hid.mk' hp
  have HB : Hid (∀ o : Obj, Below V.heap.size V (V.alloc o)) := Hid.mk' (fun o => (Below.refl _ V).alloc (Nat.le_refl _) o)
  have HY : Hid (∀ Y, Below V.heap.size V Y → YieldAt Fence.wide (q - 1) Tryz.prog l #[.string P, .string t] Y fun e Z => FlPost D WH J Jx V (pre ++ [(Sums.bl P, Sums.bl t)]) e Z) := Hid.mk' (fun Y hy => by
    have h1 := hY (q - 1) pre (Sums.bl P, Sums.bl t) Y (hJb _ _ _ hJ hy) hp
    dsimp only [encP] at h1
    rw [nums_bl, nums_bl] at h1
    exact h1.mono fun e Z h => h.imp (fun k => ⟨k.1, k.2.1, (KpD.of hy hD).t k.2.2⟩) (fun k => ⟨k.1, _, hp, k.2⟩))
  clear hJb hY hJ hp hD
  refine callsIn_of_wp Tryz.func41 rfl trivial ?_ rfl
  simp only [Tryz.ntmps41, List.size_toArray, List.length_cons, List.length_nil, Nat.reduceAdd, Nat.reduceSub, Array.replicate_succ, Array.replicate_zero, List.push_toArray, List.append_toArray, List.nil_append, List.cons_append]
  gi_wp2
  refine ⟨trivial, dep, (callsIn_wide.2 (plainText5 t pn pk nn cn nk ck _)).mono ?_⟩
  rintro e w5 ⟨rfl, hb5⟩
  have hb6 := (HB.out _).trans ⟨hb5.os, hb5.tape, hb5.output, hb5.size, fun j hj => hb5.block j (by rw [World.size_alloc]; omega)⟩
  obtain ⟨fn, tmps, assign, body, hyy, hRR⟩ := HY.out w5 hb6
  clear hb5 hb6 HB HY
  gi_wp2
  refine ⟨dep, hRR.mono ?_⟩
  rintro e Z h
  have HZ := Hid.mk' h
  rcases h with ⟨rfl, _⟩ | ⟨rfl, _⟩
  · gi_wp2
    go_ret
    exact HZ.out
  · gi_wp2
    go_ret
    exact HZ.out
end Go.Proofs.YtkplbggefiemdaaGreatDoor

namespace Go.Proofs.YtkplbggefiemdaaGreatDoor
open Go.RowKit Go.Shelf
set_option linter.unusedVariables false
set_option linter.unusedSimpArgs false
attribute [local go_sem] Oper.semAt_some
set_option maxRecDepth 100000 in
set_option maxHeartbeats 16000000 in
theorem flat_list (q l n : Nat) (D : Nat → Prop) (WH : List (List Nat × List Nat)) (J Jx : List (List Nat × List Nat) → World → Prop)
    (hJb : ∀ pre X Y, J pre X → Below X.heap.size X Y → J pre Y)
    (t P : ByteArray) (ns : List ByteArray) (ks : List Vl) (cs : Array Value) (V : World) (pre : List (List Nat × List Nat)) (hv : VlAt D V (.mk 6 t ns ks) cs) (hD : ∀ j, D j → j < V.heap.size) (hD3 : D 5) (hpw : Pow V) (hks : ks.length ≤ 65536) (hn : 0 < n) (hPs : P.size + 65560 * n ≤ 100000000) (hJ : J pre V)
    (hkid : ∀ (i : Nat) (u : Vl), ks[i]? = some u → ∀ (R : ByteArray) (cs : Array Value) (X : World) (pre : List (List Nat × List Nat)), VlAt D X u cs → (∀ j, D j → j < X.heap.size) → Pow X → R.size + 65560 * (n - 1) ≤ 100000000 → J pre X → pre ++ flV u (Sums.bl R) <+: WH → CallsIn Fence.wide (q - 1) Tryz.prog 41 #[.agg cs, .string R, .func (.yield l) #[] #[]] X (FlPost D WH J Jx X (pre ++ flV u (Sums.bl R))))
    (hp : pre ++ flK ks (pthL (Sums.bl P)) 0 <+: WH) :
    CallsIn Fence.wide q Tryz.prog 41 #[.agg cs, .string P, .func (.yield l) #[] #[]] V (FlPost D WH J Jx V (pre ++ flK ks (pthL (Sums.bl P)) 0)) := by
  obtain ⟨pn, cn, pk, ck, hcs, _, _⟩ := hv.open_
  have hcs2 : cs = #[.int .i64 6, .string t, .slice pn ns.length cn, .slice pk ks.length ck] := hcs
  subst hcs2
  clear hcs
  have HV := Hid.mk' hv
  have HPS := Hid.mk' hPs
  have HPW := Hid.mk' hpw
  have HDD := Hid.mk' hD
  have HJB := Hid.mk' hJb
  have HKID := Hid.mk' hkid
  have HPR := Hid.mk' hp
  have H0 := Hid.mk' hJ
  have HNN := Hid.mk' hn
  have hlI : (ks.length : Int) ≤ 65536 := by omega
  have HB0 : Hid (Below V.heap.size V (V.alloc (.cells #[.int .i64 6, .string t, .slice pn ns.length cn, .slice pk ks.length ck] 41))) := Hid.mk' ((Below.refl _ V).alloc (Nat.le_refl _) _)
  clear hv hPs hpw hD hJb hkid hp hJ hn
  refine callsIn_of_wp Tryz.func41 rfl trivial ?_ rfl
  simp only [Tryz.ntmps41, List.size_toArray, List.length_cons, List.length_nil, Nat.reduceAdd, Nat.reduceSub, Array.replicate_succ, Array.replicate_zero, List.push_toArray, List.append_toArray, List.nil_append, List.cons_append]
  gi_wp2
  generalize V.alloc (.cells #[.int .i64 6, .string t, .slice pn ns.length cn, .slice pk ks.length ck] 41) = V1 at HB0 ⊢
  have HJ1 : Hid (J (pre ++ flK (ks.take 0) (pthL (Sums.bl P)) 0) V1) := Hid.mk' (by rw [List.take_zero, flK, List.append_nil]; exact HJB.out _ _ _ H0.out HB0.out)
  have HK1 : Hid (KpD D V V1) := Hid.mk' (KpD.of HB0.out HDD.out)
  gi_loopw [18] (fun iv wr => ∃ (i : Nat), iv = .int .i64 (i : Int) ∧ i ≤ ks.length ∧ Hid (J (pre ++ flK (ks.take i) (pthL (Sums.bl P)) 0) wr) ∧ Hid (KpD D V wr)) (fun iv _ => ks.length - (intOf iv).toNat)
  case atStart => exact ⟨0, by simp, by omega, HJ1, HK1⟩
  case round =>
    obtain ⟨i, rfl, hi, HJ, HK⟩ := hrel
    rename World => wr
    clear HJ1 HK1 H0
    by_cases hiT : i < ks.length
    · have hiI : (i : Int) < (ks.length : Int) := by omega
      obtain ⟨u, hu⟩ : ∃ u, ks[i]? = some u := ⟨_, List.getElem?_eq_getElem hiT⟩
      obtain ⟨p1, c1, p2, c2, heq, _, hkk⟩ := (HV.out.kd HK.out).open_
      obtain ⟨g, off, hpk, xk, xt, q1, n1, d1, q2, n2, d2, e0, e1, e2, e3, hvu⟩ := hkk i u hu
      have hp2 : p2 = pk := by simp at heq; exact heq.2.1.symm
      rw [hp2] at hpk
      subst hpk
      have HDw : Hid (∀ j, D j → j < wr.heap.size) := Hid.mk' (fun j hj => by have := HDD.out j hj; have := HK.out.2.2; omega)
      have HTK : Hid (flK (ks.take (i + 1)) (pthL (Sums.bl P)) 0 = flK (ks.take i) (pthL (Sums.bl P)) 0 ++ flV u (pthL (Sums.bl P) i)) := Hid.mk' (flK_take _ _ _ _ hu)
      have HPP : Hid ((pre ++ flK (ks.take i) (pthL (Sums.bl P)) 0) ++ flV u (pthL (Sums.bl P) i) <+: WH) := Hid.mk' (by
        rw [List.append_assoc, ← HTK.out]
        exact ((List.prefix_append_right_inj _).2 (flK_pre _ ks (i + 1) 0)).trans HPR.out)
      have HKU : Hid (∀ (R : ByteArray) (X : World), Below wr.heap.size wr X → Sums.bl R = pthL (Sums.bl P) i → CallsIn Fence.wide (q - 1) Tryz.prog 41 #[.agg #[.int .i64 xk, .string xt, .slice q1 n1 d1, .slice q2 n2 d2], .string R, .func (.yield l) #[] #[]] X (FlPost D WH J Jx X (pre ++ flK (ks.take (i + 1)) (pthL (Sums.bl P)) 0))) := Hid.mk' (fun R X hX hR => by
        have h1 := HKID.out i u hu R _ X (pre ++ flK (ks.take i) (pthL (Sums.bl P)) 0) (VlAt.keep (fun _ x => x) (fun j hj hl => hX.block j hl) hX.size _ _ hvu) (fun j hj => Nat.lt_of_lt_of_le (HDw.out j hj) hX.size) (HPW.out.same ((hX.block 5 (HDw.out 5 hD3)).trans (HK.out.2.1 5 hD3))) (by
          have h2 := Sums.bl_length R
          rw [hR] at h2
          unfold pthL at h2
          simp only [List.length_append, List.length_cons, List.length_nil, Sums.bl_length] at h2
          have h3 := dec_short i (by omega)
          have h4 := HPS.out
          have h5 := HNN.out
          omega) (HJB.out _ _ _ HJ.out hX) (by rw [hR]; exact HPP.out)
        rw [hR, List.append_assoc, ← HTK.out] at h1
        exact h1)
      have HIT : Hid (∀ X, Below wr.heap.size wr X → Calls Tryz.prog 46 #[.int .i64 (i : Int)] X fun e w' => (∃ t, Sums.bl t = dec i ∧ e = .returned (.string t)) ∧ Below X.heap.size X w') := Hid.mk' (fun X hX => itoa_any i X (by omega) (HPW.out.same ((hX.block 5 (HDw.out 5 hD3)).trans (HK.out.2.1 5 hD3))))
      have HBW : Hid (Below wr.heap.size wr (wr.alloc (.cells #[.int .i64 xk, .string xt, .slice q1 n1 d1, .slice q2 n2 d2] 41))) := Hid.mk' ((Below.refl _ wr).alloc (Nat.le_refl _) _)
      have HNW := Hid.mk' (heap_alloc_new wr (.cells #[.int .i64 xk, .string xt, .slice q1 n1 d1, .slice q2 n2 d2] 41))
      clear hu heq hkk hvu hp2 HTK HPP HKID
      gi_wp2
      generalize wr.alloc (.cells #[.int .i64 xk, .string xt, .slice q1 n1 d1, .slice q2 n2 d2] 41) = wj at HBW HNW ⊢
      have hnw := HNW.out
      have b0 : wj.cell? ⟨wr.heap.size, 0, none⟩ = some (.int .i64 xk) := by simp [World.cell?, hnw]
      have b1 : wj.cell? ⟨wr.heap.size, 1, none⟩ = some (.string xt) := by simp [World.cell?, hnw]
      have b2 : wj.cell? ⟨wr.heap.size, 2, none⟩ = some (.slice q1 n1 d1) := by simp [World.cell?, hnw]
      have b3 : wj.cell? ⟨wr.heap.size, 3, none⟩ = some (.slice q2 n2 d2) := by simp [World.cell?, hnw]
      have hPz : P.size ≤ 100000000 := by have := HPS.out; omega
      clear hnw e0 e1 e2 e3
      gi_region_with (first
        | (refine ⟨trivial, dep, ?_⟩; gi_at_call 46; refine (callsIn_wide.2 (HIT.out _ (by exact HBW.out.drewN' 1))).mono ?_; rintro e w5 ⟨⟨T, hT, rfl⟩, hb5⟩; have HT := Hid.mk' hT; have HW5 : Hid (Below wr.heap.size wr w5) := (Hid.mk' (by exact (HBW.out.drewN' 1).trans ⟨hb5.os, hb5.tape, hb5.output, hb5.size, fun j hj => hb5.block j (Nat.lt_of_lt_of_le hj HBW.out.size)⟩)); have hn5 : w5.heap[wr.heap.size]? = some (.cells #[.int .i64 xk, .string xt, .slice q1 n1 d1, .slice q2 n2 d2] 41 (0, 0)) := ((hb5.block wr.heap.size (by exact (Array.getElem?_eq_some_iff.1 HNW.out).1)).trans HNW.out); have f0 : w5.cell? ⟨wr.heap.size, 0, none⟩ = some (.int .i64 xk) := (by simp [World.cell?, hn5]); have f1 : w5.cell? ⟨wr.heap.size, 1, none⟩ = some (.string xt) := (by simp [World.cell?, hn5]); have f2 : w5.cell? ⟨wr.heap.size, 2, none⟩ = some (.slice q1 n1 d1) := (by simp [World.cell?, hn5]); have f3 : w5.cell? ⟨wr.heap.size, 3, none⟩ = some (.slice q2 n2 d2) := (by simp [World.cell?, hn5]); have hTz : T.size ≤ 15 := (by rw [← Sums.bl_length, hT]; exact dec_short i (by omega)); clear hT hb5 hn5)
        | (refine ⟨trivial, dep, ?_⟩; gi_at_call 41; refine (HKU.out _ w5 HW5.out (by rw [Sums.bl_append, Sums.bl_append, Sums.bl_append, HT.out]; rfl)).mono ?_; rintro e w6 h6; obtain ⟨b, rfl⟩ := h6.bool; have H6 := Hid.mk' h6; clear h6))
      all_goals
        cases b
        · simp only [Bool.not_false]
          gi_wp2
          go_ret
          exact .inr ⟨rfl, H6.out.no⟩
        · have HJ6 : Hid (J (pre ++ flK (ks.take (i + 1)) (pthL (Sums.bl P)) 0) w6) := Hid.mk' H6.out.yes.1
          have HK6 : Hid (KpD D V w6) := Hid.mk' (HK.out.t ((KpD.of HW5.out HDw.out).t H6.out.yes.2))
          simp only [Bool.not_true]
          gi_wp2
          go_roundw
          case rel => exact ⟨i + 1, by simp, by omega, HJ6, HK6⟩
          case measure => simp [intOf]; omega
    · obtain rfl : i = ks.length := by omega
      have HJE : Hid (J (pre ++ flK ks (pthL (Sums.bl P)) 0) wr) := Hid.mk' (by have h := HJ.out; rw [List.take_length] at h; exact h)
      clear HJ
      gi_wp2
      go_ret
      exact .inl ⟨rfl, HJE.out, HK.out⟩
end Go.Proofs.YtkplbggefiemdaaGreatDoor

namespace Go.Proofs.YtkplbggefiemdaaGreatDoor
open Go.RowKit Go.Shelf
set_option linter.unusedVariables false
set_option linter.unusedSimpArgs false
attribute [local go_sem] Oper.semAt_some
set_option maxRecDepth 100000 in
set_option maxHeartbeats 16000000 in
theorem flat_obj (q l n : Nat) (D : Nat → Prop) (WH : List (List Nat × List Nat)) (J Jx : List (List Nat × List Nat) → World → Prop)
    (hJb : ∀ pre X Y, J pre X → Below X.heap.size X Y → J pre Y)
    (t P : ByteArray) (ns : List ByteArray) (ks : List Vl) (cs : Array Value) (V : World) (pre : List (List Nat × List Nat)) (hv : VlAt D V (.mk 7 t ns ks) cs) (hD : ∀ j, D j → j < V.heap.size) (hD3 : D 5) (hpw : Pow V) (hks : ks.length ≤ 65536) (hln : ns.length = ks.length) (hsh : ∀ x ∈ ns, x.size ≤ 65536) (hn : 0 < n) (hPs : P.size + 65560 * n ≤ 100000000) (hJ : J pre V)
    (hkid : ∀ (i : Nat) (u : Vl), ks[i]? = some u → ∀ (R : ByteArray) (cs : Array Value) (X : World) (pre : List (List Nat × List Nat)), VlAt D X u cs → (∀ j, D j → j < X.heap.size) → Pow X → R.size + 65560 * (n - 1) ≤ 100000000 → J pre X → pre ++ flV u (Sums.bl R) <+: WH → CallsIn Fence.wide (q - 1) Tryz.prog 41 #[.agg cs, .string R, .func (.yield l) #[] #[]] X (FlPost D WH J Jx X (pre ++ flV u (Sums.bl R))))
    (hp : pre ++ flK ks (pthO (Sums.bl P) ns) 0 <+: WH) :
    CallsIn Fence.wide q Tryz.prog 41 #[.agg cs, .string P, .func (.yield l) #[] #[]] V (FlPost D WH J Jx V (pre ++ flK ks (pthO (Sums.bl P) ns) 0)) := by
  obtain ⟨pn, cn, pk, ck, hcs, _, _⟩ := hv.open_
  have hcs2 : cs = #[.int .i64 7, .string t, .slice pn ns.length cn, .slice pk ks.length ck] := hcs
  subst hcs2
  clear hcs
  have HV := Hid.mk' hv
  have HPS := Hid.mk' hPs
  have HPW := Hid.mk' hpw
  have HDD := Hid.mk' hD
  have HJB := Hid.mk' hJb
  have HKID := Hid.mk' hkid
  have HPR := Hid.mk' hp
  have H0 := Hid.mk' hJ
  have HNN := Hid.mk' hn
  have HLN := Hid.mk' hln
  have HSH := Hid.mk' hsh
  have hlI : (ks.length : Int) ≤ 65536 := by omega
  have HB0 : Hid (Below V.heap.size V (V.alloc (.cells #[.int .i64 7, .string t, .slice pn ns.length cn, .slice pk ks.length ck] 41))) := Hid.mk' ((Below.refl _ V).alloc (Nat.le_refl _) _)
  have HX1 := Hid.mk' (heap_alloc_new V (.cells #[.int .i64 7, .string t, .slice pn ns.length cn, .slice pk ks.length ck] 41))
  clear hv hPs hpw hD hJb hkid hp hJ hn hln hsh
  refine callsIn_of_wp Tryz.func41 rfl trivial ?_ rfl
  simp only [Tryz.ntmps41, List.size_toArray, List.length_cons, List.length_nil, Nat.reduceAdd, Nat.reduceSub, Array.replicate_succ, Array.replicate_zero, List.push_toArray, List.append_toArray, List.nil_append, List.cons_append]
  by_cases h0 : P.size = 0
  · have hse : P = ByteArray.empty := Sums.bl_inj ((List.eq_nil_of_length_eq_zero (by rw [Sums.bl_length]; exact h0)).trans rfl)
    subst hse
    have HP2 : Hid (Sums.bl ByteArray.empty = (if Sums.bl ByteArray.empty = [] then [] else Sums.bl ByteArray.empty ++ [46])) := Hid.mk' rfl
    have HZ2 : Hid (ByteArray.empty.size ≤ ByteArray.empty.size + 1) := Hid.mk' (by omega)
    clear h0
    gi_wp2
    generalize V.alloc (.cells #[.int .i64 7, .string t, .slice pn ns.length cn, .slice pk ks.length ck] 41) = V1 at HB0 HX1 ⊢
    have HJ1 : Hid (J (pre ++ flK (ks.take 0) (pthO (Sums.bl ByteArray.empty) ns) 0) V1) := Hid.mk' (by rw [List.take_zero, flK, List.append_nil]; exact HJB.out _ _ _ H0.out HB0.out)
    have HK1 : Hid (KpD D V V1) := Hid.mk' (KpD.of HB0.out HDD.out)
    gi_loopw [43] (fun iv wr => ∃ (i : Nat), iv = .int .i64 (i : Int) ∧ i ≤ ks.length ∧ Hid (J (pre ++ flK (ks.take i) (pthO (Sums.bl ByteArray.empty) ns) 0) wr) ∧ Hid (KpD D V wr) ∧ Hid (wr.heap[V.heap.size]? = some (.cells #[.int .i64 7, .string t, .slice pn ns.length cn, .slice pk ks.length ck] 41 (0, 0)))) (fun iv _ => ks.length - (intOf iv).toNat)
    case atStart => exact ⟨0, by simp, by omega, HJ1, HK1, HX1⟩
    case round =>
      obtain ⟨i, rfl, hi, HJ, HK, HX⟩ := hrel
      rename World => wr
      clear HJ1 HK1 HX1 H0
      by_cases hiT : i < ks.length
      · have hiI : (i : Int) < (ks.length : Int) := by omega
        have hiN : (i : Int) < (ns.length : Int) := by have := HLN.out; omega
        obtain ⟨u, hu⟩ : ∃ u, ks[i]? = some u := ⟨_, List.getElem?_eq_getElem hiT⟩
        obtain ⟨nm, hnm⟩ : ∃ nm, ns[i]? = some nm := ⟨_, List.getElem?_eq_getElem (by have := HLN.out; omega)⟩
        obtain ⟨p1, c1, p2, c2, heq, hnn, hkk⟩ := (HV.out.kd HK.out).open_
        obtain ⟨g, off, hpk, xk, xt, q1, n1, d1, q2, n2, d2, e0, e1, e2, e3, hvu⟩ := hkk i u hu
        obtain ⟨gn, on, hpn, hgl, en⟩ := hnn i nm hnm
        have hp2 : p2 = pk := by simp at heq; exact heq.2.1.symm
        have hp1 : p1 = pn := by simp at heq; exact heq.1.1.symm
        rw [hp2] at hpk
        rw [hp1] at hpn
        subst hpk
        subst hpn
        have hnz : nm.size ≤ 65536 := HSH.out nm (List.mem_of_getElem? hnm)
        have hgd : ns.getD i ByteArray.empty = nm := by rw [List.getD_eq_getElem?_getD, hnm]; rfl
        have HPT : Hid (pthO (Sums.bl ByteArray.empty) ns i = Sums.bl (ByteArray.empty) ++ Sums.bl nm) := Hid.mk' (by unfold pthO; rw [hgd, ← HP2.out])
        have HDw : Hid (∀ j, D j → j < wr.heap.size) := Hid.mk' (fun j hj => by have := HDD.out j hj; have := HK.out.2.2; omega)
        have HTK : Hid (flK (ks.take (i + 1)) (pthO (Sums.bl ByteArray.empty) ns) 0 = flK (ks.take i) (pthO (Sums.bl ByteArray.empty) ns) 0 ++ flV u (pthO (Sums.bl ByteArray.empty) ns i)) := Hid.mk' (flK_take _ _ _ _ hu)
        have HPP : Hid ((pre ++ flK (ks.take i) (pthO (Sums.bl ByteArray.empty) ns) 0) ++ flV u (pthO (Sums.bl ByteArray.empty) ns i) <+: WH) := Hid.mk' (by
          rw [List.append_assoc, ← HTK.out]
          exact ((List.prefix_append_right_inj _).2 (flK_pre _ ks (i + 1) 0)).trans HPR.out)
        have HKU : Hid (∀ (X : World), Below wr.heap.size wr X → CallsIn Fence.wide (q - 1) Tryz.prog 41 #[.agg #[.int .i64 xk, .string xt, .slice q1 n1 d1, .slice q2 n2 d2], .string (ByteArray.empty ++ nm), .func (.yield l) #[] #[]] X (FlPost D WH J Jx X (pre ++ flK (ks.take (i + 1)) (pthO (Sums.bl ByteArray.empty) ns) 0))) := Hid.mk' (fun X hX => by
          have hR : Sums.bl (ByteArray.empty ++ nm) = pthO (Sums.bl ByteArray.empty) ns i := by rw [HPT.out, Sums.bl_append]
          have h1 := HKID.out i u hu (ByteArray.empty ++ nm) _ X (pre ++ flK (ks.take i) (pthO (Sums.bl ByteArray.empty) ns) 0) (VlAt.keep (fun _ x => x) (fun j hj hl => hX.block j hl) hX.size _ _ hvu) (fun j hj => Nat.lt_of_lt_of_le (HDw.out j hj) hX.size) (HPW.out.same ((hX.block 5 (HDw.out 5 hD3)).trans (HK.out.2.1 5 hD3))) (by
            have h4 := HPS.out
            have h5 := HNN.out
            have h6 := HZ2.out
            rw [ByteArray.size_append]
            omega) (HJB.out _ _ _ HJ.out hX) (by rw [hR]; exact HPP.out)
          rw [hR, List.append_assoc, ← HTK.out] at h1
          exact h1)
        have HBW : Hid (Below wr.heap.size wr (wr.alloc (.cells #[.int .i64 xk, .string xt, .slice q1 n1 d1, .slice q2 n2 d2] 41))) := Hid.mk' ((Below.refl _ wr).alloc (Nat.le_refl _) _)
        have HNW := Hid.mk' (heap_alloc_new wr (.cells #[.int .i64 xk, .string xt, .slice q1 n1 d1, .slice q2 n2 d2] 41))
        have HEN := Hid.mk' (And.intro hgl en)
        clear hu heq hkk hvu hp2 hp1 HTK HPP HKID hnn en hgd hnm
        gi_wp2
        generalize wr.alloc (.cells #[.int .i64 xk, .string xt, .slice q1 n1 d1, .slice q2 n2 d2] 41) = wj at HBW HNW ⊢
        have hnw := HNW.out
        have b0 : wj.cell? ⟨wr.heap.size, 0, none⟩ = some (.int .i64 xk) := by simp [World.cell?, hnw]
        have b1 : wj.cell? ⟨wr.heap.size, 1, none⟩ = some (.string xt) := by simp [World.cell?, hnw]
        have b2 : wj.cell? ⟨wr.heap.size, 2, none⟩ = some (.slice q1 n1 d1) := by simp [World.cell?, hnw]
        have b3 : wj.cell? ⟨wr.heap.size, 3, none⟩ = some (.slice q2 n2 d2) := by simp [World.cell?, hnw]
        have hxx := (HBW.out.block V.heap.size (Array.getElem?_eq_some_iff.1 HX.out).1).trans HX.out
        have x2 : wj.cell? ⟨V.heap.size, 2, none⟩ = some (.slice (some ⟨gn, on, none⟩) ns.length cn) := by simp [World.cell?, hxx]
        have y2 : wj.cell? ⟨gn, on + i, none⟩ = some (.string nm) := (HBW.out.cell (p := ⟨gn, on + i, none⟩) HEN.out.1).trans HEN.out.2
        have hPz : (ByteArray.empty).size ≤ 100000001 := by have := HPS.out; have := HZ2.out; omega
        clear hnw e0 e1 e2 e3 hxx hgl
        gi_region_with (first
          | (refine ⟨trivial, dep, ?_⟩; gi_at_call 41; refine (HKU.out _ (by exact HBW.out.drewN' 1)).mono ?_; rintro e w6 h6; obtain ⟨b, rfl⟩ := h6.bool; have H6 := Hid.mk' h6; clear h6))
        all_goals
          cases b
          · simp only [Bool.not_false]
            gi_wp2
            go_ret
            exact .inr ⟨rfl, H6.out.no⟩
          · have HJ6 : Hid (J (pre ++ flK (ks.take (i + 1)) (pthO (Sums.bl ByteArray.empty) ns) 0) w6) := Hid.mk' H6.out.yes.1
            have HKW : Hid (KpD D wr w6) := Hid.mk' ((KpD.of HBW.out HDw.out).t H6.out.yes.2)
            have HK6 : Hid (KpD D V w6) := Hid.mk' (HK.out.t HKW.out)
            have HX6 : Hid (w6.heap[V.heap.size]? = some (.cells #[.int .i64 7, .string t, .slice (some ⟨gn, on, none⟩) ns.length cn, .slice (some ⟨g, off, none⟩) ks.length ck] 41 (0, 0))) := Hid.mk' (HKW.out.1 _ _ _ _ (.inr (.inr rfl)) HX.out)
            simp only [Bool.not_true]
            gi_wp2
            go_roundw
            case rel => exact ⟨i + 1, by simp, by omega, HJ6, HK6, HX6⟩
            case measure => simp [intOf]; omega
      · obtain rfl : i = ks.length := by omega
        have HJE : Hid (J (pre ++ flK ks (pthO (Sums.bl ByteArray.empty) ns) 0) wr) := Hid.mk' (by have h := HJ.out; rw [List.take_length] at h; exact h)
        clear HJ
        gi_wp2
        go_ret
        exact .inl ⟨rfl, HJE.out, HK.out⟩
  · have hti : P.toList.isEmpty = false := by
      rw [ByteArray.toList_eq]
      cases hd : P.data.toList with
      | nil =>
        have : P.size = 0 := by
          show P.data.size = 0
          rw [← Array.length_toList, hd]
          rfl
        omega
      | cons a b => rfl
    have htn : ¬ P.toList = [] := fun e => by rw [e] at hti; cases hti
    have hPb : P.size ≤ 100000000 := by have := HPS.out; omega
    have HP2 : Hid (Sums.bl (P ++ ⟨#[46]⟩) = (if Sums.bl P = [] then [] else Sums.bl P ++ [46])) := Hid.mk' (by
      rw [if_neg (fun e => by have := Sums.bl_length P; rw [e] at this; simp at this; omega), Sums.bl_append]; rfl)
    have HZ2 : Hid ((P ++ ⟨#[46]⟩).size ≤ P.size + 1) := Hid.mk' (by rw [ByteArray.size_append]; exact Nat.le_refl _)
    gi_wp2
    generalize V.alloc (.cells #[.int .i64 7, .string t, .slice pn ns.length cn, .slice pk ks.length ck] 41) = V1 at HB0 HX1 ⊢
    have HJ1 : Hid (J (pre ++ flK (ks.take 0) (pthO (Sums.bl P) ns) 0) V1) := Hid.mk' (by rw [List.take_zero, flK, List.append_nil]; exact HJB.out _ _ _ H0.out HB0.out)
    have HK1 : Hid (KpD D V V1) := Hid.mk' (KpD.of HB0.out HDD.out)
    gi_loopw [43] (fun iv wr => ∃ (i : Nat), iv = .int .i64 (i : Int) ∧ i ≤ ks.length ∧ Hid (J (pre ++ flK (ks.take i) (pthO (Sums.bl P) ns) 0) wr) ∧ Hid (KpD D V wr) ∧ Hid (wr.heap[V.heap.size]? = some (.cells #[.int .i64 7, .string t, .slice pn ns.length cn, .slice pk ks.length ck] 41 (0, 0)))) (fun iv _ => ks.length - (intOf iv).toNat)
    case atStart => exact ⟨0, by simp, by omega, HJ1, HK1, HX1⟩
    case round =>
      obtain ⟨i, rfl, hi, HJ, HK, HX⟩ := hrel
      rename World => wr
      clear HJ1 HK1 HX1 H0
      by_cases hiT : i < ks.length
      · have hiI : (i : Int) < (ks.length : Int) := by omega
        have hiN : (i : Int) < (ns.length : Int) := by have := HLN.out; omega
        obtain ⟨u, hu⟩ : ∃ u, ks[i]? = some u := ⟨_, List.getElem?_eq_getElem hiT⟩
        obtain ⟨nm, hnm⟩ : ∃ nm, ns[i]? = some nm := ⟨_, List.getElem?_eq_getElem (by have := HLN.out; omega)⟩
        obtain ⟨p1, c1, p2, c2, heq, hnn, hkk⟩ := (HV.out.kd HK.out).open_
        obtain ⟨g, off, hpk, xk, xt, q1, n1, d1, q2, n2, d2, e0, e1, e2, e3, hvu⟩ := hkk i u hu
        obtain ⟨gn, on, hpn, hgl, en⟩ := hnn i nm hnm
        have hp2 : p2 = pk := by simp at heq; exact heq.2.1.symm
        have hp1 : p1 = pn := by simp at heq; exact heq.1.1.symm
        rw [hp2] at hpk
        rw [hp1] at hpn
        subst hpk
        subst hpn
        have hnz : nm.size ≤ 65536 := HSH.out nm (List.mem_of_getElem? hnm)
        have hgd : ns.getD i ByteArray.empty = nm := by rw [List.getD_eq_getElem?_getD, hnm]; rfl
        have HPT : Hid (pthO (Sums.bl P) ns i = Sums.bl (P ++ ⟨#[46]⟩) ++ Sums.bl nm) := Hid.mk' (by unfold pthO; rw [hgd, ← HP2.out])
        have HDw : Hid (∀ j, D j → j < wr.heap.size) := Hid.mk' (fun j hj => by have := HDD.out j hj; have := HK.out.2.2; omega)
        have HTK : Hid (flK (ks.take (i + 1)) (pthO (Sums.bl P) ns) 0 = flK (ks.take i) (pthO (Sums.bl P) ns) 0 ++ flV u (pthO (Sums.bl P) ns i)) := Hid.mk' (flK_take _ _ _ _ hu)
        have HPP : Hid ((pre ++ flK (ks.take i) (pthO (Sums.bl P) ns) 0) ++ flV u (pthO (Sums.bl P) ns i) <+: WH) := Hid.mk' (by
          rw [List.append_assoc, ← HTK.out]
          exact ((List.prefix_append_right_inj _).2 (flK_pre _ ks (i + 1) 0)).trans HPR.out)
        have HKU : Hid (∀ (X : World), Below wr.heap.size wr X → CallsIn Fence.wide (q - 1) Tryz.prog 41 #[.agg #[.int .i64 xk, .string xt, .slice q1 n1 d1, .slice q2 n2 d2], .string (P ++ ⟨#[46]⟩ ++ nm), .func (.yield l) #[] #[]] X (FlPost D WH J Jx X (pre ++ flK (ks.take (i + 1)) (pthO (Sums.bl P) ns) 0))) := Hid.mk' (fun X hX => by
          have hR : Sums.bl (P ++ ⟨#[46]⟩ ++ nm) = pthO (Sums.bl P) ns i := by rw [HPT.out, Sums.bl_append]
          have h1 := HKID.out i u hu (P ++ ⟨#[46]⟩ ++ nm) _ X (pre ++ flK (ks.take i) (pthO (Sums.bl P) ns) 0) (VlAt.keep (fun _ x => x) (fun j hj hl => hX.block j hl) hX.size _ _ hvu) (fun j hj => Nat.lt_of_lt_of_le (HDw.out j hj) hX.size) (HPW.out.same ((hX.block 5 (HDw.out 5 hD3)).trans (HK.out.2.1 5 hD3))) (by
            have h4 := HPS.out
            have h5 := HNN.out
            have h6 := HZ2.out
            rw [ByteArray.size_append]
            omega) (HJB.out _ _ _ HJ.out hX) (by rw [hR]; exact HPP.out)
          rw [hR, List.append_assoc, ← HTK.out] at h1
          exact h1)
        have HBW : Hid (Below wr.heap.size wr (wr.alloc (.cells #[.int .i64 xk, .string xt, .slice q1 n1 d1, .slice q2 n2 d2] 41))) := Hid.mk' ((Below.refl _ wr).alloc (Nat.le_refl _) _)
        have HNW := Hid.mk' (heap_alloc_new wr (.cells #[.int .i64 xk, .string xt, .slice q1 n1 d1, .slice q2 n2 d2] 41))
        have HEN := Hid.mk' (And.intro hgl en)
        clear hu heq hkk hvu hp2 hp1 HTK HPP HKID hnn en hgd hnm
        gi_wp2
        generalize wr.alloc (.cells #[.int .i64 xk, .string xt, .slice q1 n1 d1, .slice q2 n2 d2] 41) = wj at HBW HNW ⊢
        have hnw := HNW.out
        have b0 : wj.cell? ⟨wr.heap.size, 0, none⟩ = some (.int .i64 xk) := by simp [World.cell?, hnw]
        have b1 : wj.cell? ⟨wr.heap.size, 1, none⟩ = some (.string xt) := by simp [World.cell?, hnw]
        have b2 : wj.cell? ⟨wr.heap.size, 2, none⟩ = some (.slice q1 n1 d1) := by simp [World.cell?, hnw]
        have b3 : wj.cell? ⟨wr.heap.size, 3, none⟩ = some (.slice q2 n2 d2) := by simp [World.cell?, hnw]
        have hxx := (HBW.out.block V.heap.size (Array.getElem?_eq_some_iff.1 HX.out).1).trans HX.out
        have x2 : wj.cell? ⟨V.heap.size, 2, none⟩ = some (.slice (some ⟨gn, on, none⟩) ns.length cn) := by simp [World.cell?, hxx]
        have y2 : wj.cell? ⟨gn, on + i, none⟩ = some (.string nm) := (HBW.out.cell (p := ⟨gn, on + i, none⟩) HEN.out.1).trans HEN.out.2
        have hPz : (P ++ ⟨#[46]⟩).size ≤ 100000001 := by have := HPS.out; have := HZ2.out; omega
        clear hnw e0 e1 e2 e3 hxx hgl
        gi_region_with (first
          | (refine ⟨trivial, dep, ?_⟩; gi_at_call 41; refine (HKU.out _ (by exact HBW.out.drewN' 1)).mono ?_; rintro e w6 h6; obtain ⟨b, rfl⟩ := h6.bool; have H6 := Hid.mk' h6; clear h6))
        all_goals
          cases b
          · simp only [Bool.not_false]
            gi_wp2
            go_ret
            exact .inr ⟨rfl, H6.out.no⟩
          · have HJ6 : Hid (J (pre ++ flK (ks.take (i + 1)) (pthO (Sums.bl P) ns) 0) w6) := Hid.mk' H6.out.yes.1
            have HKW : Hid (KpD D wr w6) := Hid.mk' ((KpD.of HBW.out HDw.out).t H6.out.yes.2)
            have HK6 : Hid (KpD D V w6) := Hid.mk' (HK.out.t HKW.out)
            have HX6 : Hid (w6.heap[V.heap.size]? = some (.cells #[.int .i64 7, .string t, .slice (some ⟨gn, on, none⟩) ns.length cn, .slice (some ⟨g, off, none⟩) ks.length ck] 41 (0, 0))) := Hid.mk' (HKW.out.1 _ _ _ _ (.inr (.inr rfl)) HX.out)
            simp only [Bool.not_true]
            gi_wp2
            go_roundw
            case rel => exact ⟨i + 1, by simp, by omega, HJ6, HK6, HX6⟩
            case measure => simp [intOf]; omega
      · obtain rfl : i = ks.length := by omega
        have HJE : Hid (J (pre ++ flK ks (pthO (Sums.bl P) ns) 0) wr) := Hid.mk' (by have h := HJ.out; rw [List.take_length] at h; exact h)
        clear HJ
        gi_wp2
        go_ret
        exact .inl ⟨rfl, HJE.out, HK.out⟩
set_option maxRecDepth 100000 in
theorem flatten_any (l : Nat) (D : Nat → Prop) (WH : List (List Nat × List Nat)) (J Jx : List (List Nat × List Nat) → World → Prop)
    (hJb : ∀ pre X Y, J pre X → Below X.heap.size X Y → J pre Y)
    (hY : ∀ m pre x X, J pre X → pre ++ [x] <+: WH → YieldAt Fence.wide m Tryz.prog l (encP x) X fun e Y =>
      (e = .returned (.bool true) ∧ J (pre ++ [x]) Y ∧ KpD D X Y) ∨ (e = .returned (.bool false) ∧ Jx (pre ++ [x]) Y)) (hD3 : D 5) :
    ∀ (m : Nat) (v : Vl), szV v ≤ m → ∀ (n : Nat), okV n v = true → ∀ (q : Nat) (P : ByteArray) (cs : Array Value) (V : World) (pre : List (List Nat × List Nat)), VlAt D V v cs → (∀ j, D j → j < V.heap.size) → Pow V → P.size + 65560 * n ≤ 100000000 → J pre V → pre ++ flV v (Sums.bl P) <+: WH →
    CallsIn Fence.wide q Tryz.prog 41 #[.agg cs, .string P, .func (.yield l) #[] #[]] V (FlPost D WH J Jx V (pre ++ flV v (Sums.bl P)))
  | 0, .mk k t ns ks, hm => by rw [szV] at hm; omega
  | m + 1, .mk k t ns ks, hm => by
    intro n hok q P cs V pre hv hD hpw hPs hJ hp
    rw [szV] at hm
    have hkid : okL (n - 1) ks = true → ∀ (i : Nat) (u : Vl), ks[i]? = some u → ∀ (R : ByteArray) (cs : Array Value) (X : World) (pre : List (List Nat × List Nat)), VlAt D X u cs → (∀ j, D j → j < X.heap.size) → Pow X → R.size + 65560 * (n - 1) ≤ 100000000 → J pre X → pre ++ flV u (Sums.bl R) <+: WH → CallsIn Fence.wide (q - 1) Tryz.prog 41 #[.agg cs, .string R, .func (.yield l) #[] #[]] X (FlPost D WH J Jx X (pre ++ flV u (Sums.bl R))) := fun hol i u hu R cs X pre q1 q2 q3 q4 q5 q6 => by
      have hs := szVL_get ks i u hu
      exact flatten_any l D WH J Jx hJb hY hD3 m u (by omega) (n - 1) (okL_get _ _ _ _ hol hu) (q - 1) R cs X pre q1 q2 q3 q4 q5 q6
    rw [okV] at hok
    simp only [Bool.or_eq_true, Bool.and_eq_true, decide_eq_true_eq, List.isEmpty_iff, List.all_eq_true] at hok
    rcases hok with (((⟨⟨⟨⟨k1, k3⟩, x1⟩, rfl⟩, rfl⟩ | ⟨⟨⟨rfl, x1⟩, rfl⟩, rfl⟩) | ⟨⟨⟨rfl, x1⟩, rfl⟩, rfl⟩) | ⟨⟨⟨⟨⟨rfl, x1⟩, rfl⟩, x3⟩, x4⟩, x5⟩) | ⟨⟨⟨⟨⟨⟨⟨rfl, x1⟩, x2⟩, x6⟩, x7⟩, x3⟩, x4⟩, x5⟩
    · obtain rfl := bl_empty x1
      rcases (show k = 1 ∨ k = 2 ∨ k = 3 by omega) with rfl | rfl | rfl
      · have e : flV (.mk 1 ByteArray.empty [] []) (Sums.bl P) = [(Sums.bl P, Sums.bl (⟨#[110, 117, 108, 108]⟩ : ByteArray))] := rfl
        rw [e] at hp ⊢
        obtain ⟨pn, cn, pk, ck, hcs, _, _⟩ := hv.open_
        subst hcs
        exact flat_leaf1 q l D WH J Jx hJb hY ByteArray.empty P pn pk _ cn _ ck V pre hD hJ hp
      · have e : flV (.mk 2 ByteArray.empty [] []) (Sums.bl P) = [(Sums.bl P, Sums.bl (⟨#[102, 97, 108, 115, 101]⟩ : ByteArray))] := rfl
        rw [e] at hp ⊢
        obtain ⟨pn, cn, pk, ck, hcs, _, _⟩ := hv.open_
        subst hcs
        exact flat_leaf2 q l D WH J Jx hJb hY ByteArray.empty P pn pk _ cn _ ck V pre hD hJ hp
      · have e : flV (.mk 3 ByteArray.empty [] []) (Sums.bl P) = [(Sums.bl P, Sums.bl (⟨#[116, 114, 117, 101]⟩ : ByteArray))] := rfl
        rw [e] at hp ⊢
        obtain ⟨pn, cn, pk, ck, hcs, _, _⟩ := hv.open_
        subst hcs
        exact flat_leaf3 q l D WH J Jx hJb hY ByteArray.empty P pn pk _ cn _ ck V pre hD hJ hp
    · have e : flV (.mk 4 t [] []) (Sums.bl P) = [(Sums.bl P, Sums.bl t)] := rfl
      rw [e] at hp ⊢
      obtain ⟨pn, cn, pk, ck, hcs, _, _⟩ := hv.open_
      subst hcs
      exact flat_leaf4 q l D WH J Jx hJb hY t P pn pk _ cn _ ck V pre hD hJ hp
    · have e : flV (.mk 5 t [] []) (Sums.bl P) = [(Sums.bl P, Sums.bl t)] := rfl
      rw [e] at hp ⊢
      obtain ⟨pn, cn, pk, ck, hcs, _, _⟩ := hv.open_
      subst hcs
      exact flat_leaf5 q l D WH J Jx hJb hY t P pn pk _ cn _ ck V pre hD hJ hp
    · have e : flV (.mk 6 t [] ks) (Sums.bl P) = flK ks (pthL (Sums.bl P)) 0 := rfl
      rw [e] at hp ⊢
      exact flat_list q l n D WH J Jx hJb t P [] ks cs V pre hv hD hD3 hpw x4 x3 hPs hJ (hkid x5) hp
    · have e : flV (.mk 7 t ns ks) (Sums.bl P) = flK ks (pthO (Sums.bl P) ns) 0 := rfl
      rw [e] at hp ⊢
      exact flat_obj q l n D WH J Jx hJb t P ns ks cs V pre hv hD hD3 hpw x4 x2 (fun x hx => (shT_ok (x6 x hx)).1) x3 hPs hJ (hkid x5) hp
end Go.Proofs.YtkplbggefiemdaaGreatDoor
