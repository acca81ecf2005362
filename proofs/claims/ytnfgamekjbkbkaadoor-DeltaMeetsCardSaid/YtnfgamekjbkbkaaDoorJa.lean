/-
  Revocations: logs that are beginnings of the same ones.
-/
import Derived.Test.YtnfgamekjbkbkaaDoorEy
namespace Go.Proofs.YtnfgamekjbkbkaaDoor
open Go Go.RowKit
theorem dup_take {l : List Int} {n : Nat} (h : dupB (l.take n) = true) : dupB l = true := by
  rw [dup_iff] at *
  obtain ⟨k, hk, hm⟩ := h
  rw [List.length_take] at hk
  refine ⟨k, by omega, ?_⟩
  rw [List.take_take, Nat.min_eq_left (by omega)] at hm
  have e : (l.take n).getD k 0 = l.getD k 0 := by
    simp [List.getD_eq_getElem?_getD, show k < n by omega]
  rw [e] at hm
  exact hm
theorem nodup_take {l : List Int} (n : Nat) (h : dupB l = false) : dupB (l.take n) = false := by
  cases h1 : dupB (l.take n)
  · rfl
  · rw [dup_take h1] at h
    cases h
theorem newJ_take (L : List Int) (i j n : Nat) (hn : n ≤ i) (hnj : n ≤ j) (hi : i ≤ L.length) (hj : j ≤ L.length) : newJ (L.take i) n ((L.take j).drop n) = L.take (max i j) := by
  have hb : bothN (L.take i) n ((L.take j).drop n) = min i j - n := by
    unfold bothN
    rw [List.length_take, List.length_drop, List.length_take]
    omega
  unfold newJ
  rw [hb, List.drop_drop, show n + (min i j - n) = min i j by omega]
  rcases Nat.le_total i j with h | h
  · rw [Nat.min_eq_left h, Nat.max_eq_right h]
    have e : L.take i = (L.take j).take i := by rw [List.take_take, Nat.min_eq_left h]
    rw [e, List.take_append_drop]
  · rw [Nat.min_eq_right h, Nat.max_eq_left h, List.drop_eq_nil_of_le (by rw [List.length_take]; omega), List.append_nil]
theorem okJ_take (L : List Int) (i j n : Nat) (hn : n ≤ i) (hnj : n ≤ j) (hi : i ≤ L.length) (hj : j ≤ L.length) (hd : dupB L = false) : okJ (L.take i) n ((L.take j).drop n) = true := by
  have hb : bothN (L.take i) n ((L.take j).drop n) = min i j - n := by
    unfold bothN
    rw [List.length_take, List.length_drop, List.length_take]
    omega
  have h1 := newJ_take L i j n hn hnj hi hj
  unfold newJ at h1
  unfold okJ
  rw [h1, nodup_take _ hd]
  have hf : fitL (L.take i) n ((L.take j).drop n) := by
    unfold fitL
    rw [hb, List.take_take, List.take_drop, List.take_take]
    congr 2
    omega
  simp [hf]
/-- Four counts. -/
structure N4 where
  a : Nat
  b : Nat
  c : Nat
  d : Nat
def N4.v (n : N4) : V4 := ⟨(n.a : Int), (n.b : Int), (n.c : Int), (n.d : Int)⟩
def N4.max (n m : N4) : N4 := ⟨Nat.max n.a m.a, Nat.max n.b m.b, Nat.max n.c m.c, Nat.max n.d m.d⟩
structure N4.Le (n m : N4) : Prop where
  a : n.a ≤ m.a
  b : n.b ≤ m.b
  c : n.c ≤ m.c
  d : n.d ≤ m.d
def L4.len (l : L4) : N4 := ⟨l.a.length, l.b.length, l.c.length, l.d.length⟩
/-- The logs' beginnings. -/
def L4.pre (l : L4) (n : N4) : L4 := ⟨l.a.take n.a, l.b.take n.b, l.c.take n.c, l.d.take n.d⟩
def L4.from_ (l : L4) (n : N4) : L4 := ⟨l.a.drop n.a, l.b.drop n.b, l.c.drop n.c, l.d.drop n.d⟩
/-- None of the logs has one twice. -/
structure NoDup (l : L4) : Prop where
  a : dupB l.a = false
  b : dupB l.b = false
  c : dupB l.c = false
  d : dupB l.d = false
theorem NoDup.nil : NoDup L4.nil := ⟨rfl, rfl, rfl, rfl⟩
theorem L4.pre_len {l : L4} {n : N4} (h : n.Le l.len) : (l.pre n).ver = n.v := by
  obtain ⟨h1, h2, h3, h4⟩ := h
  unfold L4.len at *
  simp only at h1 h2 h3 h4
  unfold L4.ver L4.pre N4.v
  simp only [List.length_take, Nat.min_eq_left h1, Nat.min_eq_left h2, Nat.min_eq_left h3, Nat.min_eq_left h4]
theorem Good.pre {l : L4} (h : Good l) (n : N4) : Good (l.pre n) := by
  have hs := h.s
  refine ⟨fun x hx => ?_, ?_, ?_, ?_, ?_⟩
  · rcases hx with hx | hx | hx | hx
    · exact hs x (.inl (List.mem_of_mem_take hx))
    · exact hs x (.inr (.inl (List.mem_of_mem_take hx)))
    · exact hs x (.inr (.inr (.inl (List.mem_of_mem_take hx))))
    · exact hs x (.inr (.inr (.inr (List.mem_of_mem_take hx))))
  · have := h.a
    unfold L4.pre
    simp only [List.length_take]
    omega
  · have := h.b
    unfold L4.pre
    simp only [List.length_take]
    omega
  · have := h.c
    unfold L4.pre
    simp only [List.length_take]
    omega
  · have := h.d
    unfold L4.pre
    simp only [List.length_take]
    omega
theorem NoDup.pre {l : L4} (h : NoDup l) (n : N4) : NoDup (l.pre n) := ⟨nodup_take _ h.a, nodup_take _ h.b, nodup_take _ h.c, nodup_take _ h.d⟩
theorem allS_of {l : List Int} (h : ∀ x ∈ l, okS x = true) : allS l = true := List.all_eq_true.2 h
theorem full_v {n : N4} (a : n.a ≤ 256) (b : n.b ≤ 256) (c : n.c ≤ 256) (d : n.d ≤ 256) : covV full4 n.v = true := by
  unfold covV full4 N4.v
  simp only [decide_eq_true_iff]
  omega
theorem zero_v (n : N4) : covV n.v V4.zero = true := by
  unfold covV V4.zero N4.v
  simp only [decide_eq_true_iff]
  omega
/-- A delta of a longer beginning, applied to a beginning. -/
theorem applyL_pre {L : L4} (hg : Good L) (hd : NoDup L) (i j n : N4) (hi : i.Le L.len) (hj : j.Le L.len) (hni : n.Le i) (hnj : n.Le j) :
    applyL (L.pre i) n.v ((L.pre j).from_ n) = ((cntL (L.pre (i.max j)) : Int) - (cntL (L.pre i) : Int), 0, L.pre (i.max j)) := by
  have hs := hg.s
  obtain ⟨i1, i2, i3, i4⟩ := hi
  obtain ⟨j1, j2, j3, j4⟩ := hj
  obtain ⟨n1, n2, n3, n4⟩ := hni
  obtain ⟨m1, m2, m3, m4⟩ := hnj
  unfold L4.len at *
  simp only at i1 i2 i3 i4 j1 j2 j3 j4
  have g1 := hg.a
  have g2 := hg.b
  have g3 := hg.c
  have g4 := hg.d
  have hsub : ∀ (l : List Int) (a b : Nat), (∀ x ∈ l, okS x = true) → allS ((l.take a).drop b) = true := fun l a b h => allS_of fun x hx => h x (List.mem_of_mem_take (List.mem_of_mem_drop hx))
  have hw : withinB n.v ((L.pre j).from_ n) = true := by
    unfold withinB L4.from_ L4.pre
    simp only
    rw [hsub _ _ _ (fun x hx => hs x (.inl hx)), hsub _ _ _ (fun x hx => hs x (.inr (.inl hx))), hsub _ _ _ (fun x hx => hs x (.inr (.inr (.inl hx)))), hsub _ _ _ (fun x hx => hs x (.inr (.inr (.inr hx)))), zero_v, full_v (by omega) (by omega) (by omega) (by omega)]
    rfl
  have hv : (L.pre i).ver = i.v := L4.pre_len ⟨i1, i2, i3, i4⟩
  have hc : covV (L.pre i).ver n.v = true := by
    rw [hv]
    unfold covV N4.v
    simp only [decide_eq_true_iff]
    omega
  have hn : newL (L.pre i) n.v ((L.pre j).from_ n) = L.pre (i.max j) := by
    unfold newL L4.from_ L4.pre N4.v N4.max
    simp only [Int.toNat_natCast]
    rw [newJ_take _ _ _ _ n1 m1 i1 j1, newJ_take _ _ _ _ n2 m2 i2 j2, newJ_take _ _ _ _ n3 m3 i3 j3, newJ_take _ _ _ _ n4 m4 i4 j4]
  have ho : okL (L.pre i) n.v ((L.pre j).from_ n) = true := by
    unfold okL L4.from_ L4.pre N4.v
    simp only [Int.toNat_natCast]
    rw [okJ_take _ _ _ _ n1 m1 i1 j1 hd.a, okJ_take _ _ _ _ n2 m2 i2 j2 hd.b, okJ_take _ _ _ _ n3 m3 i3 j3 hd.c, okJ_take _ _ _ _ n4 m4 i4 j4 hd.d]
    rfl
  have hx : (i.max j).Le L.len := ⟨Nat.max_le.2 ⟨i1, j1⟩, Nat.max_le.2 ⟨i2, j2⟩, Nat.max_le.2 ⟨i3, j3⟩, Nat.max_le.2 ⟨i4, j4⟩⟩
  have hf : covV full4 (L.pre (i.max j)).ver = true := by
    rw [L4.pre_len hx]
    have x1 := hx.a
    have x2 := hx.b
    have x3 := hx.c
    have x4 := hx.d
    unfold L4.len at *
    simp only at x1 x2 x3 x4
    exact full_v (by omega) (by omega) (by omega) (by omega)
  unfold applyL
  rw [if_pos hw, if_pos hc, if_pos ho, hn, if_pos hf]
theorem revL_nodup {l : L4} (hg : NoDup l) (n : Int) (m : List Int) : NoDup (revL l n m).2 := by
  unfold revL
  split
  · split
    · exact hg
    · rename_i h1
      have h1 := eq_false_of_ne_true h1
      split
      · exact hg
      · unfold L4.put L4.get at *
        split
        · rename_i h
          rw [if_pos h] at h1
          exact ⟨h1, hg.b, hg.c, hg.d⟩
        · rename_i h
          rw [if_neg h] at h1
          split
          · rename_i h
            rw [if_pos h] at h1
            exact ⟨hg.a, h1, hg.c, hg.d⟩
          · rename_i h
            rw [if_neg h] at h1
            split
            · rename_i h
              rw [if_pos h] at h1
              exact ⟨hg.a, hg.b, h1, hg.d⟩
            · rename_i h
              rw [if_neg h] at h1
              exact ⟨hg.a, hg.b, hg.c, h1⟩
  · exact hg
end Go.Proofs.YtnfgamekjbkbkaaDoor
