/-
  A copy laid byte by byte, and in rounds that double: the same. Conditions: as each says.
-/
import Derived.Test.YtchjmhgalbkjkaaLzA
namespace Lz
def grow (off : Nat) : Nat → List Nat → List Nat
  | 0, l => l
  | k + 1, l => grow off k (l ++ [l.getD (l.length - off) 0])
def lap (l : List Nat) (off k : Nat) : List Nat := (List.range k).map fun i => l.getD (l.length - off + i % off) 0
theorem lap_length (l : List Nat) (off k : Nat) : (lap l off k).length = k := by simp [lap]
theorem getD_left (a b : List Nat) (i : Nat) (h : i < a.length) : (a ++ b).getD i 0 = a.getD i 0 := by
  rw [List.getD_eq_getElem?_getD, List.getD_eq_getElem?_getD, List.getElem?_append_left h]
theorem getD_right (a b : List Nat) (i : Nat) (h : a.length ≤ i) : (a ++ b).getD i 0 = b.getD (i - a.length) 0 := by
  rw [List.getD_eq_getElem?_getD, List.getD_eq_getElem?_getD, List.getElem?_append_right h]
theorem grow_eq (off : Nat) (h0 : 0 < off) : ∀ (k : Nat) (l : List Nat), off ≤ l.length → grow off k l = l ++ lap l off k
  | 0, l, _ => by simp [grow, lap]
  | k + 1, l, h => by
    rw [grow, grow_eq off h0 k _ (by simp; omega), List.append_assoc]
    congr 1
    unfold lap
    rw [List.range_succ_eq_map, List.map_cons, List.map_map, List.singleton_append]
    rw [List.cons_eq_cons]
    refine ⟨by simp, ?_⟩
    · apply List.map_congr_left
      intro i _
      simp only [Function.comp, List.length_append, List.length_cons, List.length_nil]
      have hm := Nat.mod_lt i h0
      have hs : (i + 1) % off = (i % off + 1) % off := (Nat.mod_add_mod i off 1).symm
      show (l ++ [l.getD (l.length - off) 0]).getD (l.length + (0 + 1) - off + i % off) 0 = l.getD (l.length - off + (i + 1) % off) 0
      rw [hs]
      by_cases hc : i % off + 1 < off
      · rw [Nat.mod_eq_of_lt hc, getD_left _ _ _ (by omega)]
        congr 1
        omega
      · have e : i % off + 1 = off := by omega
        rw [e, Nat.mod_self, getD_right _ _ _ (by omega)]
        rw [show l.length + (0 + 1) - off + i % off - l.length = 0 by omega]
        rfl
theorem grow_length (off : Nat) (h0 : 0 < off) (k : Nat) (l : List Nat) (h : off ≤ l.length) : (grow off k l).length = l.length + k := by
  rw [grow_eq off h0 k l h, List.length_append, lap_length]
theorem getD_map_range (f : Nat → Nat) (k i : Nat) (h : i < k) : ((List.range k).map f).getD i 0 = f i := by
  simp [List.getD, h]
theorem grow_step (off : Nat) (h0 : 0 < off) (l : List Nat) (h : off ≤ l.length) (q k : Nat) (hk : k ≤ off + off * q) :
    grow off (off * q + k) l = grow off (off * q) l ++ ((grow off (off * q) l).drop (l.length - off)).take k := by
  rw [grow_eq off h0 _ l h, grow_eq off h0 _ l h, List.append_assoc]
  congr 1
  unfold lap
  rw [List.range_add, List.map_append, List.map_map]
  congr 1
  apply List.ext_getElem
  · simp
    omega
  · intro i h1 h2
    simp only [List.length_map, List.length_range] at h1
    simp only [List.getElem_map, List.getElem_range, Function.comp, List.getElem_take, List.getElem_drop]
    rw [Nat.mul_add_mod]
    by_cases hc : i < off
    · rw [List.getElem_append_left (by omega), Nat.mod_eq_of_lt hc]
      simp [List.getD, show l.length - off + i < l.length by omega]
    · rw [List.getElem_append_right (by omega)]
      simp only [List.getElem_map, List.getElem_range]
      rw [show l.length - off + i - l.length = i - off by omega, Nat.mod_eq_sub_mod (by omega)]
theorem grow_add (off : Nat) : ∀ (a b : Nat) (l : List Nat), grow off (a + b) l = grow off b (grow off a l)
  | 0, b, l => by simp [grow]
  | a + 1, b, l => by rw [show a + 1 + b = (a + b) + 1 by omega, grow, grow_add off a b, grow]
theorem grow_behind (off : Nat) (h0 : 0 < off) (b : List Nat) : ∀ (k : Nat) (l : List Nat), off ≤ l.length → grow off k (b ++ l) = b ++ grow off k l
  | 0, l, _ => rfl
  | k + 1, l, h => by
    rw [grow, grow, getD_right b l _ (by simp; omega), show (b ++ l).length - off - b.length = l.length - off by simp; omega, List.append_assoc, grow_behind off h0 b k _ (by simp; omega)]
theorem grow_reach (off : Nat) (b l : List Nat) (k y : Nat) (hy : l.length + y = off) (hb : y ≤ b.length) (hk : k ≤ y) (h0 : 0 < y) :
    grow off k (b ++ l) = b ++ (l ++ (b.drop (b.length - y)).take k) := by
  rw [grow_eq off (by omega) k _ (by simp; omega), List.append_assoc]
  congr 2
  apply List.ext_getElem
  · simp [lap]
    omega
  · intro i h1 h2
    rw [lap_length] at h1
    simp only [lap, List.getElem_map, List.getElem_range, List.getElem_take, List.getElem_drop]
    rw [Nat.mod_eq_of_lt (by omega), getD_left _ _ _ (by simp; omega), show (b ++ l).length - off + i = b.length - y + i by simp; omega]
    simp [List.getD, show b.length - y + i < b.length by omega]
/-- what a sequence lays behind a text -/
def say (bs : List Nat) (out : List Nat) (x : Sq) : List Nat := grow x.off x.len (out ++ (bs.drop x.frm).take x.many)
def says (bs bef : List Nat) (l : List Sq) : List Nat := l.foldl (say bs) bef
theorem says_snoc (bs bef : List Nat) (l : List Sq) (x : Sq) : says bs bef (l ++ [x]) = say bs (says bs bef l) x := by simp [says]
end Lz
