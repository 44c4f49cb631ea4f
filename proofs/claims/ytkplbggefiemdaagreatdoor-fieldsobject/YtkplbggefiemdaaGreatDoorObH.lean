/-
  object: values, as a reader makes them: plain functions; values in memory. Conditions: none.
-/
import Derived.Test.YtkplbggefiemdaaGreatDoorObAG
namespace Go.Proofs.YtkplbggefiemdaaGreatDoor
open Go.RowKit
set_option linter.unusedVariables false
inductive Vl where
  | mk (k : Nat) (t : ByteArray) (ns : List ByteArray) (ks : List Vl) : Vl
/-- what a method that reads does: it answers something and comes to a place, or gives up at one -/
inductive Rv (A : Type) where
  | ok (a : A) (p : Nat) : Rv A
  | no (c p : Nat) : Rv A
def Rv.bind {A B : Type} (r : Rv A) (k : A → Nat → Rv B) : Rv B :=
  match r with
  | .ok a p => k a p
  | .no c p => .no c p
/-- things with a comma between each two, up to the bracket that closes -/
def thgs {A : Type} (thing : A → Nat → Rv A) (L : List Nat) (cl : Nat) : Nat → A → Nat → Rv A
  | 0, s, p => .no 0 0
  | n + 1, s, p => if rngO cl cl (L.drop p) = true then .ok s (p + 1) else if rngO 44 44 (L.drop p) = true then (thing s (p + 1)).bind (thgs thing L cl n) else .no 130 p
/-- from one bracket to the other; so many may still be opened -/
def brk {A : Type} (thing : A → Nat → Rv A) (L : List Nat) (cl n : Nat) (s : A) (p : Nat) : Rv A :=
  if n = 0 then .no 84 p
  else if rngO cl cl (L.drop (blP L (p + 1))) = true then .ok s (blP L (p + 1) + 1)
  else (thing s (blP L (p + 1))).bind (thgs thing L cl (L.length + 1))
def lstT (val : Nat → Rv Vl) (s : List Vl) (p : Nat) : Rv (List Vl) := (val p).bind fun v q => .ok (s ++ [v]) q
/-- does a text stand among others? -/
def amg (ns : List ByteArray) (t : ByteArray) : Bool := ns.any fun x => decide (Sums.bl x = Sums.bl t)
/-- a name and what parts it from its value -/
def namP (pq : Nat → Rv ByteArray) (L : List Nat) (ns : List ByteArray) (p : Nat) : Rv ByteArray :=
  (pq (blP L p)).bind fun t q => if amg ns t = true then .no 131 (blP L p) else if rngO 58 58 (L.drop (blP L q)) = true then .ok t (blP L q + 1) else .no 130 (blP L q)
def objT (pq : Nat → Rv ByteArray) (val : Nat → Rv Vl) (L : List Nat) (s : List ByteArray × List Vl) (p : Nat) : Rv (List ByteArray × List Vl) :=
  (namP pq L s.1 p).bind fun t q => (val q).bind fun v z => .ok (s.1 ++ [t], s.2 ++ [v]) z
/-- a word -/
def wrdP (L : List Nat) (k : Nat) : List Nat → Nat → Rv Vl
  | [], p => .ok (.mk k ByteArray.empty [] []) p
  | c :: r, p => if rngO c c (L.drop p) = true then wrdP L k r (p + 1) else .no 130 p
/-- a number -/
def numV (S : ByteArray) (p : Nat) : Rs → Rv Vl
  | .ok q => .ok (.mk 4 (S.extract p q) [] []) q
  | .no c q => .no c q
/-- a value without blanks; so many brackets may still be opened; what stands within them -/
def barP (S : ByteArray) (pq : Nat → Rv ByteArray) (n : Nat) (val : Nat → Rv Vl) (p : Nat) : Rv Vl :=
  if hasO 110 ((Sums.bl S).drop p) = true then wrdP (Sums.bl S) 1 [110, 117, 108, 108] p
  else if hasO 102 ((Sums.bl S).drop p) = true then wrdP (Sums.bl S) 2 [102, 97, 108, 115, 101] p
  else if hasO 116 ((Sums.bl S).drop p) = true then wrdP (Sums.bl S) 3 [116, 114, 117, 101] p
  else if hasO 34 ((Sums.bl S).drop p) = true then (pq p).bind fun t q => .ok (.mk 5 t [] []) q
  else if hasO 91 ((Sums.bl S).drop p) = true then (brk (lstT val) (Sums.bl S) 93 n [] p).bind fun ks q => .ok (.mk 6 ByteArray.empty [] ks) q
  else if hasO 123 ((Sums.bl S).drop p) = true then (brk (objT pq val (Sums.bl S)) (Sums.bl S) 125 n ([], []) p).bind fun s q => .ok (.mk 7 ByteArray.empty s.1 s.2) q
  else numV S p (nmP (Sums.bl S) p)
/-- a value and the blanks about it -/
def valP (S : ByteArray) (pq : Nat → Rv ByteArray) : Nat → Nat → Rv Vl
  | 0, p => (barP S pq 0 (fun _ => .no 0 0) (blP (Sums.bl S) p)).bind fun v q => .ok v (blP (Sums.bl S) q)
  | n + 1, p => (barP S pq (n + 1) (valP S pq n) (blP (Sums.bl S) p)).bind fun v q => .ok v (blP (Sums.bl S) q)
/-- all of a text -/
def whlP (S : ByteArray) (pq : Nat → Rv ByteArray) : Rv Vl := (valP S pq 40 0).bind fun v q => if q = S.size then .ok v q else .no 130 q
/-- texts in memory: their row lies where F says -/
def StrsAt (F : Nat → Prop) (X : World) (ns : List ByteArray) (v : Value) : Prop :=
  (ns = [] ∧ ∃ p c, v = .slice p 0 c) ∨ ∃ g off c, v = .slice (some ⟨g, off, none⟩) ns.length c ∧ F g ∧ g < X.heap.size ∧ ∀ i t, ns[i]? = some t → X.cell? ⟨g, off + i, none⟩ = some (.string t)
mutual
/-- a value in memory: all its rows lie where F says -/
def VlAt (F : Nat → Prop) (X : World) : Vl → Array Value → Prop
  | .mk k t ns ks, cs => ∃ vn vk, cs = #[.int .i64 (k : Int), .string t, vn, vk] ∧ StrsAt F X ns vn ∧ ((ks = [] ∧ ∃ p c, vk = .slice p 0 c) ∨ ∃ g off c, vk = .slice (some ⟨g, off, none⟩) ks.length c ∧ F g ∧ g < X.heap.size ∧ KidsAt F X ks g off)
def KidsAt (F : Nat → Prop) (X : World) : List Vl → Nat → Nat → Prop
  | [], _, _ => True
  | v :: vs, g, off => (∃ cs, (∀ j u, cs[j]? = some u → X.cell? ⟨g, off + j, none⟩ = some u) ∧ VlAt F X v cs) ∧ KidsAt F X vs g (off + 4)
end
theorem StrsAt.keep {F G : Nat → Prop} {X Y : World} (hF : ∀ k, F k → G k) (hk : ∀ k, F k → k < X.heap.size → Y.heap[k]? = X.heap[k]?) (hs : X.heap.size ≤ Y.heap.size) {ns : List ByteArray} {v : Value} (h : StrsAt F X ns v) : StrsAt G Y ns v := by
  rcases h with h | ⟨g, off, c, rfl, h1, h2, h3⟩
  · exact .inl h
  · exact .inr ⟨g, off, c, rfl, hF g h1, by omega, fun i t hi => (World.cell?_of_block (a := ⟨g, off + i, none⟩) (hk g h1 h2)).trans (h3 i t hi)⟩
mutual
theorem VlAt.keep {F G : Nat → Prop} {X Y : World} (hF : ∀ k, F k → G k) (hk : ∀ k, F k → k < X.heap.size → Y.heap[k]? = X.heap[k]?) (hs : X.heap.size ≤ Y.heap.size) : ∀ (v : Vl) (cs : Array Value), VlAt F X v cs → VlAt G Y v cs
  | .mk k t ns ks, cs, h => by
    rw [VlAt] at h ⊢
    obtain ⟨vn, vk, rfl, hn, h | ⟨g, off, c, rfl, h1, h2, h3⟩⟩ := h
    · exact ⟨vn, vk, rfl, hn.keep hF hk hs, .inl h⟩
    · exact ⟨vn, _, rfl, hn.keep hF hk hs, .inr ⟨g, off, c, rfl, hF g h1, by omega, KidsAt.keep hF hk hs ks g off h1 h2 h3⟩⟩
theorem KidsAt.keep {F G : Nat → Prop} {X Y : World} (hF : ∀ k, F k → G k) (hk : ∀ k, F k → k < X.heap.size → Y.heap[k]? = X.heap[k]?) (hs : X.heap.size ≤ Y.heap.size) : ∀ (l : List Vl) (g off : Nat), F g → g < X.heap.size → KidsAt F X l g off → KidsAt G Y l g off
  | [], g, off, _, _, h => by rw [KidsAt]; trivial
  | v :: vs, g, off, hg, hl, h => by
    rw [KidsAt] at h ⊢
    obtain ⟨⟨cs, h1, h2⟩, h3⟩ := h
    exact ⟨⟨cs, fun j u hu => (World.cell?_of_block (a := ⟨g, off + j, none⟩) (hk g hg hl)).trans (h1 j u hu), VlAt.keep hF hk hs v cs h2⟩, KidsAt.keep hF hk hs vs g (off + 4) hg hl h3⟩
end
/-- values one behind the other, as a row's cells -/
def KidsL (F : Nat → Prop) (X : World) : List Vl → List Value → Prop
  | [], xs => xs = []
  | v :: vs, xs => ∃ a b c d r, xs = a :: b :: c :: d :: r ∧ VlAt F X v #[a, b, c, d] ∧ KidsL F X vs r
theorem KidsL.keep {F G : Nat → Prop} {X Y : World} (hF : ∀ k, F k → G k) (hk : ∀ k, F k → k < X.heap.size → Y.heap[k]? = X.heap[k]?) (hs : X.heap.size ≤ Y.heap.size) : ∀ (l : List Vl) (xs : List Value), KidsL F X l xs → KidsL G Y l xs
  | [], xs, h => h
  | v :: vs, xs, ⟨a, b, c, d, r, h1, h2, h3⟩ => ⟨a, b, c, d, r, h1, VlAt.keep hF hk hs v _ h2, KidsL.keep hF hk hs vs r h3⟩
theorem KidsL.snoc {F : Nat → Prop} {X : World} {v : Vl} {a b c d : Value} (hv : VlAt F X v #[a, b, c, d]) : ∀ (l : List Vl) (xs : List Value), KidsL F X l xs → KidsL F X (l ++ [v]) (xs ++ [a, b, c, d])
  | [], xs, h => by
    rw [KidsL] at h
    subst h
    exact ⟨a, b, c, d, [], rfl, hv, rfl⟩
  | u :: vs, xs, ⟨a', b', c', d', r, h1, h2, h3⟩ => by
    subst h1
    exact ⟨a', b', c', d', r ++ [a, b, c, d], rfl, h2, KidsL.snoc hv vs r h3⟩
theorem KidsL.length {F : Nat → Prop} {X : World} : ∀ (l : List Vl) (xs : List Value), KidsL F X l xs → xs.length = l.length * 4
  | [], xs, h => by rw [KidsL] at h; subst h; rfl
  | u :: vs, xs, ⟨a', b', c', d', r, h1, h2, h3⟩ => by
    subst h1
    have := KidsL.length vs r h3
    simp
    omega
theorem KidsL.at {F : Nat → Prop} {X : World} {g : Nat} : ∀ (l : List Vl) (xs : List Value) (off : Nat), KidsL F X l xs → (∀ j u, xs[j]? = some u → X.cell? ⟨g, off + j, none⟩ = some u) → KidsAt F X l g off
  | [], xs, off, h, hc => by rw [KidsAt]; trivial
  | u :: vs, xs, off, ⟨a', b', c', d', r, h1, h2, h3⟩, hc => by
    subst h1
    rw [KidsAt]
    refine ⟨⟨_, fun j w hj => hc j w ?_, h2⟩, KidsL.at vs r (off + 4) h3 fun j w hj => ?_⟩
    · have hl := (Array.getElem?_eq_some_iff.1 hj).1
      rcases j with _ | _ | _ | _ | j
      · simpa using hj
      · simpa using hj
      · simpa using hj
      · simpa using hj
      · simp at hl
        omega
    · have := hc (j + 4) w (by simpa using hj)
      rw [show off + 4 + j = off + (j + 4) by omega]
      exact this
theorem VlAt.shape {F : Nat → Prop} {X : World} {v : Vl} {cs : Array Value} (h : VlAt F X v cs) : ∃ a b c d, cs = #[a, b, c, d] := by
  obtain ⟨k, t, ns, ks⟩ := v
  rw [VlAt] at h
  obtain ⟨vn, vk, rfl, _⟩ := h
  exact ⟨_, _, _, _, rfl⟩
theorem VlAt.form {F : Nat → Prop} {X : World} {v : Vl} {cs : Array Value} (h : VlAt F X v cs) : ∃ (k : Int) (t : ByteArray) (pn : Option Addr) (nn cn : Nat) (pk : Option Addr) (nk ck : Nat), cs = #[.int .i64 k, .string t, .slice pn nn cn, .slice pk nk ck] := by
  obtain ⟨k, t, ns, ks⟩ := v
  rw [VlAt] at h
  obtain ⟨vn, vk, rfl, h1, h2⟩ := h
  rcases h1 with ⟨_, p, c, rfl⟩ | ⟨g, off, c, rfl, _⟩
  · rcases h2 with ⟨_, p', c', rfl⟩ | ⟨g', off', c', rfl, _⟩
    · exact ⟨_, _, _, _, _, _, _, _, rfl⟩
    · exact ⟨_, _, _, _, _, _, _, _, rfl⟩
  · rcases h2 with ⟨_, p', c', rfl⟩ | ⟨g', off', c', rfl, _⟩
    · exact ⟨_, _, _, _, _, _, _, _, rfl⟩
    · exact ⟨_, _, _, _, _, _, _, _, rfl⟩
theorem VlAt.plain {F : Nat → Prop} {X : World} (k : Nat) (t : ByteArray) : VlAt F X (.mk k t [] []) #[.int .i64 (k : Int), .string t, .slice none 0 0, .slice none 0 0] := by
  rw [VlAt]
  exact ⟨_, _, rfl, .inl ⟨rfl, _, _, rfl⟩, .inl ⟨rfl, _, _, rfl⟩⟩
/-- a method that answers a value: its rows are new -/
def Rv.PostV (r : Rv Vl) (g : Nat) (S : ByteArray) (d : Nat) (w : World) (e : Ending) (w' : World) : Prop :=
  match r with
  | .ok v p => ∃ cs, e = .returned (.agg cs) ∧ Rr g S p d w' ∧ Only g w w' ∧ ∃ F : Nat → Prop, (∀ k, F k → w.heap.size ≤ k ∧ k < w'.heap.size) ∧ VlAt F w' v cs
  | .no c p => e = .panicked (flt c p) ∧ Only g w w'
/-- a method that answers a text -/
def Rv.PostT (r : Rv ByteArray) (g : Nat) (S : ByteArray) (d : Nat) (w : World) (e : Ending) (w' : World) : Prop :=
  match r with
  | .ok t p => e = .returned (.string t) ∧ Rr g S p d w' ∧ Only g w w'
  | .no c p => e = .panicked (flt c p) ∧ Only g w w'
end Go.Proofs.YtkplbggefiemdaaGreatDoor
