/-
  The document's Want.
-/
import Derived.Test.YtdbdpehagkglfaaH29
namespace Go.Proofs.Ytdbdpehagkglfaa
open Go Go.RowKit
/-- With one more, ahead of the first that is larger. -/
def insZ (e : Zz) : List Zz → List Zz
  | [] => [e]
  | x :: r => if lessC e.e.c x.e.c = true then e :: x :: r else x :: insZ e r
theorem insZ_none (e : Zz) : ∀ a : List Zz, (∀ x ∈ a, lessC e.e.c x.e.c = false) → insZ e a = a ++ [e]
  | [], _ => rfl
  | y :: a, h => by
    rw [insZ, h y (.head _), if_neg Bool.false_ne_true, insZ_none e a (fun x hx => h x (.tail _ hx))]
    rfl
theorem insZ_more (e y : Zz) : ∀ a : List Zz, (∃ x ∈ a, lessC e.e.c x.e.c = true) → insZ e (a ++ [y]) = insZ e a ++ [y]
  | [], h => by obtain ⟨x, hx, _⟩ := h; cases hx
  | z :: a, h => by
    rw [List.cons_append, insZ, insZ]
    by_cases hz : lessC e.e.c z.e.c = true
    · rw [if_pos hz, if_pos hz]; rfl
    · rw [if_neg hz, if_neg hz, insZ_more e y a (by
        obtain ⟨x, hx, h1⟩ := h
        rcases List.mem_cons.1 hx with rfl | hx
        · exact absurd h1 hz
        · exact ⟨x, hx, h1⟩)]
      rfl
theorem insZ_first (e y : Zz) (hy : lessC e.e.c y.e.c = true) : ∀ a : List Zz, (∀ x ∈ a, lessC e.e.c x.e.c = false) → insZ e (a ++ [y]) = a ++ [e] ++ [y]
  | [], _ => by rw [List.nil_append, insZ, if_pos hy]; rfl
  | z :: a, h => by
    rw [List.cons_append, insZ, h z (.head _), if_neg Bool.false_ne_true, insZ_first e y hy a (fun x hx => h x (.tail _ hx))]
    rfl
theorem insZ_length (e : Zz) : ∀ a : List Zz, (insZ e a).length = a.length + 1
  | [] => rfl
  | z :: a => by
    rw [insZ]
    split
    · rfl
    · simp [insZ_length e a]
theorem takeZ_succ (zs : List Zz) (k : Nat) (hk : k < zs.length) : zs.take (k + 1) = zs.take k ++ [zs[k]] := by
  rw [List.take_add_one, List.getElem?_eq_getElem hk]
  rfl
/-- A new entry. -/
def newZ (c : Cl) (tk : Int) : Zz := ⟨⟨c, 0, Ws.zero, none, tk⟩, .slice none 0 0, .slice none 0 0, [], tk⟩
theorem encZ_one (z : Zz) (h1 : z.kv.oneCell' = true) (h2 : z.tv.oneCell' = true) : ∀ u ∈ encZ z, u.oneCell' = true := fun u hu => by
  simp [encZ] at hu
  rcases hu with rfl | rfl | rfl | rfl | rfl | rfl | rfl | rfl <;> first | rfl | exact h1 | exact h2
/-- Slices in their cells. -/
def SlZ (zs : List Zz) : Prop := ∀ z ∈ zs, z.kv.oneCell' = true ∧ z.tv.oneCell' = true
set_option maxRecDepth 100000 in
set_option maxHeartbeats 4000000 in
theorem rwant_bad (base : Nat) (mv : Value) (zs : List Zz) (c : Cl) (tk : Int) (w : World) (h : RowZ w base mv zs) (hl : zs.length ≤ 1000) (hok : okC c = false) : Calls Try.prog 8 #[mv, clV c, .int .i64 tk] w fun e w' => e = .returned (.tuple #[mv, .int .i64 10]) ∧ Below w.heap.size w w' := by
  have HR := Bx.mk fun W => cright_any c W
  rw [hok] at HR
  obtain ⟨a, cap, rfl, -, -⟩ := OwnG.form h
  obtain ⟨zn, hzn⟩ : ∃ zn, zs.length = zn := ⟨_, rfl⟩
  rw [hzn] at ⊢
  clear h hok hl hzn
  obtain ⟨i, r, x, q⟩ := c
  unfold clV at *
  simp only at HR ⊢
  have HBo := Bx.mk (And.intro (box_rng w ⟨i, r, x, q⟩ 24) (below_a (W := w) (.cells #[.int .i64 i, .int .i64 r, .int .i64 x, .int .i64 q] 24)))
  have hrg := HBo.out.1
  go_enter Try.func8, Try.ntmps8
  go_wp2_with (refine wpList_load_mid rfl _ _ rfl _ _ rfl _ _ hrg Try.underlying24 rfl (by kernel_rfl) ?_)
  refine (HR.out _).mono ?_
  rintro e w1 ⟨rfl, hb⟩
  have R1 := Bx.mk (And.intro (rng_later HBo.out.1 hb) (HBo.out.2.trans (hb.mono HBo.out.2.size)))
  clear hb hrg HBo HR
  go_wp2
  go_ret2
  exact ⟨rfl, R1.out.2⟩
set_option maxRecDepth 100000 in
set_option maxHeartbeats 4000000 in
theorem rwant_twice (base : Nat) (mv : Value) (zs : List Zz) (c : Cl) (tk : Int) (w : World) (h : RowZ w base mv zs) (hl : zs.length ≤ 1000) (hok : okC c = true) (K : Nat) (hK : K < zs.length) (hc : (zs[K]).e.c = c) (hb : ∀ j (hj : j < zs.length), j < K → (zs[j]).e.c ≠ c) : Calls Try.prog 8 #[mv, clV c, .int .i64 tk] w fun e w' => e = .returned (.tuple #[mv, .int .i64 8]) ∧ Below w.heap.size w w' := by
  have HR := Bx.mk fun W => cright_any c W
  rw [hok] at HR
  have HF : Bx (∀ W, Below w.heap.size w W → Calls Try.prog 19 #[mv, clV c] W fun e w' => e = .returned (.int .i64 (K : Int)) ∧ Below W.heap.size W w') := Bx.mk fun W hB => rfind_at base mv zs c W (OwnG.later h hB) hl K hK hc hb
  obtain ⟨a, cap, rfl, -, -⟩ := OwnG.form h
  have hK0 : (0 : Int) ≤ (K : Int) := by omega
  obtain ⟨zn, hzn⟩ : ∃ zn, zs.length = zn := ⟨_, rfl⟩
  rw [hzn] at HF ⊢
  clear h hok hl hzn hc hb hK
  obtain ⟨i, r, x, q⟩ := c
  unfold clV at *
  simp only at HR HF ⊢
  have HBo := Bx.mk (And.intro (box_rng w ⟨i, r, x, q⟩ 24) (below_a (W := w) (.cells #[.int .i64 i, .int .i64 r, .int .i64 x, .int .i64 q] 24)))
  have hrg := HBo.out.1
  go_enter Try.func8, Try.ntmps8
  go_wp2_with (refine wpList_load_mid rfl _ _ rfl _ _ rfl _ _ hrg Try.underlying24 rfl (by kernel_rfl) ?_)
  refine (HR.out _).mono ?_
  rintro e w1 ⟨rfl, hb⟩
  have R1 := Bx.mk (And.intro (rng_later HBo.out.1 hb) (HBo.out.2.trans (hb.mono HBo.out.2.size)))
  clear hb hrg HBo HR
  have hrg := R1.out.1
  go_wp2_with (refine wpList_load_mid rfl _ _ rfl _ _ rfl _ _ hrg Try.underlying24 rfl (by kernel_rfl) ?_)
  refine (HF.out _ R1.out.2).mono ?_
  rintro e w2 ⟨rfl, hb⟩
  have R2 := Bx.mk (R1.out.2.trans (hb.mono R1.out.2.size))
  clear hb hrg R1 HF
  go_wp2
  go_ret2
  exact ⟨rfl, R2.out⟩
set_option maxRecDepth 100000 in
set_option maxHeartbeats 4000000 in
theorem rwant_full (base : Nat) (mv : Value) (zs : List Zz) (c : Cl) (tk : Int) (w : World) (h : RowZ w base mv zs) (hl : zs.length ≤ 1000) (hok : okC c = true) (hn : ∀ z ∈ zs, z.e.c ≠ c) (hf : 16 ≤ zs.length) : Calls Try.prog 8 #[mv, clV c, .int .i64 tk] w fun e w' => e = .returned (.tuple #[mv, .int .i64 6]) ∧ Below w.heap.size w w' := by
  have HR := Bx.mk fun W => cright_any c W
  rw [hok] at HR
  have HF : Bx (∀ W, Below w.heap.size w W → Calls Try.prog 19 #[mv, clV c] W fun e w' => e = .returned (.int .i64 (-1)) ∧ Below W.heap.size W w') := Bx.mk fun W hB => rfind_out base mv zs c W (OwnG.later h hB) hl hn
  obtain ⟨a, cap, rfl, -, -⟩ := OwnG.form h
  have hf' : (16 : Int) ≤ (zs.length : Int) := by omega
  obtain ⟨zn, hzn⟩ : ∃ zn, zs.length = zn := ⟨_, rfl⟩
  rw [hzn] at hf' HF ⊢
  clear h hok hl hzn hn hf
  obtain ⟨i, r, x, q⟩ := c
  unfold clV at *
  simp only at HR HF ⊢
  have HBo := Bx.mk (And.intro (box_rng w ⟨i, r, x, q⟩ 24) (below_a (W := w) (.cells #[.int .i64 i, .int .i64 r, .int .i64 x, .int .i64 q] 24)))
  have hrg := HBo.out.1
  go_enter Try.func8, Try.ntmps8
  go_wp2_with (refine wpList_load_mid rfl _ _ rfl _ _ rfl _ _ hrg Try.underlying24 rfl (by kernel_rfl) ?_)
  refine (HR.out _).mono ?_
  rintro e w1 ⟨rfl, hb⟩
  have R1 := Bx.mk (And.intro (rng_later HBo.out.1 hb) (HBo.out.2.trans (hb.mono HBo.out.2.size)))
  clear hb hrg HBo HR
  have hrg := R1.out.1
  go_wp2_with (refine wpList_load_mid rfl _ _ rfl _ _ rfl _ _ hrg Try.underlying24 rfl (by kernel_rfl) ?_)
  refine (HF.out _ R1.out.2).mono ?_
  rintro e w2 ⟨rfl, hb⟩
  have R2 := Bx.mk (R1.out.2.trans (hb.mono R1.out.2.size))
  clear hb hrg R1 HF
  go_wp2
  go_ret2
  exact ⟨rfl, R2.out⟩
end Go.Proofs.Ytdbdpehagkglfaa
namespace Go.Proofs.Ytdbdpehagkglfaa
open Go Go.RowKit
/-- How far it is: what was put, and whether the new one was. -/
def AddZ (e : Zz) (m : List Zz) (k : Nat) (pb : Bool) (vals : List Zz) : Prop :=
  (pb = false ∧ vals = m.take k ∧ ∀ x ∈ m.take k, lessC e.e.c x.e.c = false) ∨ (pb = true ∧ vals = insZ e (m.take k) ∧ ∃ x ∈ m.take k, lessC e.e.c x.e.c = true)
theorem AddZ.put {e : Zz} {m : List Zz} {k : Nat} {vals : List Zz} (h : AddZ e m k true vals) (hk : k < m.length) : AddZ e m (k + 1) true (vals ++ [m[k]]) := by
  rcases h with ⟨h, _⟩ | ⟨_, rfl, h2⟩
  · cases h
  · refine .inr ⟨rfl, ?_, ?_⟩
    · rw [takeZ_succ m k hk, insZ_more e _ _ h2]
    · obtain ⟨x, hx, h3⟩ := h2
      exact ⟨x, by rw [takeZ_succ m k hk]; exact List.mem_append_left _ hx, h3⟩
theorem AddZ.not {e : Zz} {m : List Zz} {k : Nat} {vals : List Zz} (h : AddZ e m k false vals) (hk : k < m.length) (hl : lessC e.e.c (m[k]).e.c = false) : AddZ e m (k + 1) false (vals ++ [m[k]]) := by
  rcases h with ⟨_, rfl, h2⟩ | ⟨h, _⟩
  · refine .inl ⟨rfl, by rw [takeZ_succ m k hk], fun x hx => ?_⟩
    rw [takeZ_succ m k hk] at hx
    rcases List.mem_append.1 hx with hx | hx
    · exact h2 x hx
    · rw [List.mem_singleton.1 hx]; exact hl
  · cases h
theorem AddZ.now {e : Zz} {m : List Zz} {k : Nat} {vals : List Zz} (h : AddZ e m k false vals) (hk : k < m.length) (hl : lessC e.e.c (m[k]).e.c = true) : AddZ e m (k + 1) true (vals ++ [e] ++ [m[k]]) := by
  rcases h with ⟨_, rfl, h2⟩ | ⟨h, _⟩
  · exact .inr ⟨rfl, by rw [takeZ_succ m k hk, insZ_first e _ hl _ h2], m[k], by rw [takeZ_succ m k hk]; exact List.mem_append_right _ (List.mem_singleton.2 rfl), hl⟩
  · cases h
theorem AddZ.length {e : Zz} {m : List Zz} {k : Nat} {pb : Bool} {vals : List Zz} (h : AddZ e m k pb vals) : vals.length ≤ m.length + 1 := by
  rcases h with ⟨_, rfl, _⟩ | ⟨_, rfl, _⟩
  · rw [List.length_take]; omega
  · rw [insZ_length, List.length_take]; omega
set_option maxRecDepth 100000 in
set_option maxHeartbeats 4000000 in
theorem rwant_ok (base : Nat) (mv : Value) (m : List Zz) (c : Cl) (tk : Int) (w : World) (h : RowZ w base mv m) (hl : m.length < 16) (hok : okC c = true) (hn : ∀ z ∈ m, z.e.c ≠ c) (hms : SlZ m) :
    Calls Try.prog 8 #[mv, clV c, .int .i64 tk] w fun e w' => ∃ v', e = .returned (.tuple #[v', .int .i64 0]) ∧ RowZ w' w.heap.size v' (insZ (newZ c tk) m) ∧ Below w.heap.size w w' := by
  have HR := Bx.mk fun W => cright_any c W
  rw [hok] at HR
  have HF : Bx (∀ W, Below w.heap.size w W → Calls Try.prog 19 #[mv, clV c] W fun e w' => e = .returned (.int .i64 (-1)) ∧ Below W.heap.size W w') := Bx.mk fun W hB => rfind_out base mv m c W (OwnG.later h hB) (by omega) hn
  obtain ⟨va, vc, rfl, -, -⟩ := OwnG.form h
  obtain ⟨n, hnm⟩ : ∃ n, m.length = n := ⟨_, rfl⟩
  have HN := Bx.mk hnm
  have HO := Bx.mk hms
  obtain ⟨i, r, x, q⟩ := c
  unfold clV at *
  simp only at HR HF ⊢
  obtain ⟨X, hX⟩ : ∃ X, w.heap.size = X := ⟨_, rfl⟩
  have HBo : Bx ((w.alloc (.cells #[.int .i64 i, .int .i64 r, .int .i64 x, .int .i64 q] 24)).heap[X]? = some (.cells #[.int .i64 i, .int .i64 r, .int .i64 x, .int .i64 q] 24 (0, 0)) ∧ Below X w (w.alloc (.cells #[.int .i64 i, .int .i64 r, .int .i64 x, .int .i64 q] 24)) ∧ RowZ (w.alloc (.cells #[.int .i64 i, .int .i64 r, .int .i64 x, .int .i64 q] 24)) base (.slice va m.length vc) m) := Bx.mk ⟨hX ▸ hnew _ _ _ rfl, hX ▸ below_a _, OwnG.later h (below_a _)⟩
  rw [hnm] at hl HF HBo ⊢
  have hl1 : ¬ (16 : Int) ≤ (n : Int) := by omega
  have hl2 : n < 16 := hl
  clear h hnm hn hms hok hl
  have hrg := row_rng15 (l := [.int .i64 i, .int .i64 r, .int .i64 x, .int .i64 q]) HBo.out.1
  rw [hX] at HF ⊢
  go_enter Try.func8, Try.ntmps8
  go_wp2_with (refine wpList_load_mid rfl _ _ rfl _ _ rfl _ _ hrg Try.underlying24 rfl (by kernel_rfl) ?_)
  refine (HR.out _).mono ?_
  rintro e w1 ⟨rfl, hb⟩
  have R1 : Bx (w1.heap[X]? = some (.cells #[.int .i64 i, .int .i64 r, .int .i64 x, .int .i64 q] 24 (0, 0)) ∧ Below X w w1 ∧ RowZ w1 base (.slice va n vc) m) := Bx.mk ⟨(hb.block X (Array.getElem?_eq_some_iff.1 HBo.out.1).1).trans HBo.out.1, HBo.out.2.1.trans (hb.mono (hX ▸ HBo.out.2.1.size)), OwnG.later HBo.out.2.2 hb⟩
  clear hb hrg HBo HR
  have hrg := row_rng15 (l := [.int .i64 i, .int .i64 r, .int .i64 x, .int .i64 q]) R1.out.1
  go_wp2_with (refine wpList_load_mid rfl _ _ rfl _ _ rfl _ _ hrg Try.underlying24 rfl (by kernel_rfl) ?_)
  refine (HF.out _ R1.out.2.1).mono ?_
  rintro e wa ⟨rfl, hb⟩
  have HW : Bx (RowZ wa base (.slice va n vc) m ∧ wa.heap[X]? = some (.cells #[.int .i64 i, .int .i64 r, .int .i64 x, .int .i64 q] 24 (0, 0)) ∧ Below X w wa ∧ X < wa.heap.size ∧ X ≤ wa.heap.size) := Bx.mk (by
    have h1 := (hb.block X (Array.getElem?_eq_some_iff.1 R1.out.1).1).trans R1.out.1
    have h2 := (Array.getElem?_eq_some_iff.1 h1).1
    exact ⟨OwnG.later R1.out.2.2 hb, h1, R1.out.2.1.trans (hb.mono (hX ▸ R1.out.2.1.size)), h2, by omega⟩)
  clear hb hrg R1 HF
  go_wp2
  go_loopw [8, 9, 10] (fun vo pv j wr => ∃ (k : Nat) (pb : Bool) (o1 : Option Addr) (o2 o3 : Nat) (vals : List Zz), k ≤ n ∧ j = .int .i64 (k : Int) ∧ pv = .bool pb ∧ vo = .slice o1 o2 o3 ∧ Bx (OwnG 56 8 encZ wr wa.heap.size (.slice o1 o2 o3) vals ∧ Below wa.heap.size wa wr ∧ AddZ (newZ ⟨i, r, x, q⟩ tk) m k pb vals)) (fun _ _ j _ => n - (intOf j).toNat)
  case atStart => exact ⟨0, false, none, 0, 0, [], Nat.zero_le _, rfl, rfl, rfl, ⟨OwnG.nil _ _ _ _ _, Below.refl _ _, .inl ⟨rfl, rfl, fun y hy => by cases hy⟩⟩⟩
  case round =>
    obtain ⟨k, pb, o1, o2, o3, vals, hk, rfl, rfl, rfl, HI⟩ := hrel
    by_cases hlt : k < n
    · have hk1 : (k : Int) < (n : Int) := by omega
      have hk0 : (0 : Int) ≤ (k : Int) := by omega
      have hkm : k < m.length := by rw [HN.out]; exact hlt
      obtain ⟨g, cap, hv⟩ := OwnG.start HW.out.1 (by omega)
      injection hv with hv1 hv2 hv3
      subst hv1
      have hg := OwnG.at_ HW.out.1 encZ_len k hkm
      have HAd := Bx.mk (And.intro (fun h => AddZ.put h hkm (e := (newZ ⟨i, r, x, q⟩ tk)) (vals := vals)) (And.intro (fun h hl => AddZ.not h hkm hl (e := (newZ ⟨i, r, x, q⟩ tk)) (vals := vals)) (fun h hl => AddZ.now h hkm hl (e := (newZ ⟨i, r, x, q⟩ tk)) (vals := vals))))
      have HYv : Bx ((m[k]).kv.oneCell' = true ∧ (m[k]).tv.oneCell' = true) := Bx.mk (HO.out _ (List.getElem_mem hkm))
      generalize m[k] = z at *
      obtain ⟨⟨⟨yi, yr, yx, yq⟩, yp, ys, yk, yaa⟩, ykv, ytv, yns, ya⟩ := z
      have GY : Bx (∀ W : World, Below wa.heap.size wa W → W.rangeAt g (k * 8) (encZ ⟨⟨⟨yi, yr, yx, yq⟩, yp, ys, yk, yaa⟩, ykv, ytv, yns, ya⟩)) := Bx.mk fun W hb => rng_later hg hb
      have HX : Bx (∀ W, Below wa.heap.size wa W → W.heap[X]? = some (.cells #[.int .i64 i, .int .i64 r, .int .i64 x, .int .i64 q] 24 (0, 0))) := Bx.mk fun W hb => by rw [hb.block X HW.out.2.2.2.1]; exact HW.out.2.1
      have HLen : Bx (vals.length ≤ 101) := Bx.mk (by have := HI.out.2.2.length; rw [HN.out] at this; omega)
      have HSS : Bx (∀ W, Below wa.heap.size wa W → W.rangeAt X 0 [.int .i64 i, .int .i64 r, .int .i64 x, .int .i64 q] ∧ W.rangeAt g (k * 8) [.int .i64 yi, .int .i64 yr, .int .i64 yx, .int .i64 yq]) := Bx.mk fun W hb => ⟨row_rng15 (l := [.int .i64 i, .int .i64 r, .int .i64 x, .int .i64 q]) (HX.out W hb), rngZ4 (GY.out W hb)⟩
      have HLs : Bx (∀ W, Calls Try.prog 31 #[.agg #[.int .i64 i, .int .i64 r, .int .i64 x, .int .i64 q], .agg #[.int .i64 yi, .int .i64 yr, .int .i64 yx, .int .i64 yq]] W fun e w' => e = .returned (.bool (lessC ⟨i, r, x, q⟩ ⟨yi, yr, yx, yq⟩)) ∧ Below W.heap.size W w') := Bx.mk fun W => less_any ⟨i, r, x, q⟩ ⟨yi, yr, yx, yq⟩ W
      obtain ⟨L, hL⟩ : ∃ L, lessC ⟨i, r, x, q⟩ ⟨yi, yr, yx, yq⟩ = L := ⟨_, rfl⟩
      rw [hL] at HLs
      have HLq := Bx.mk hL
      have HZ := Bx.mk (encZ_one ⟨⟨⟨yi, yr, yx, yq⟩, yp, ys, yk, yaa⟩, ykv, ytv, yns, ya⟩ HYv.out.1 HYv.out.2)
      clear hg hL hv2 hv3 HYv
      cases pb
      · go_upto_region 12 with fail
        have P0 : Bx (OwnG 56 8 encZ wr.drew wa.heap.size (.slice o1 o2 o3) vals ∧ Below wa.heap.size wa wr.drew) := Bx.mk ⟨HI.out.1.later (Below.refl _ _).drew, HI.out.2.1.drew⟩
        have HS := Bx.mk HI.out.2.2
        refine wp_region_noPanic ?_
        refine wp_region_held_drew (S := fun W => W.rangeAt X 0 [.int .i64 i, .int .i64 r, .int .i64 x, .int .i64 q] ∧ W.rangeAt g (k * 8) [.int .i64 yi, .int .i64 yr, .int .i64 yx, .int .i64 yq]) (by kernel_rfl) (HSS.out _ P0.out.2) (fun hHeld => ?_)
        generalize wr.drew = W0 at *
        clear HI
        clear wr
        refine takeL 0 (v := ?_) rfl (by kernel_rfl) (by kernel_rfl) (by kernel_rfl) (fun _ _ _ h => h) (Or.inl ⟨by rfl, ?_⟩) hHeld ?_
        rotate_left 1
        · (intro w hSw; go_simp; try with_reducible rfl)
        try simp only [Act.put, List.setIfInBounds_toArray, List.set_cons_zero, List.set_cons_succ]
        refine takeL 1 (v := ?_) rfl (by kernel_rfl) (by kernel_rfl) (by kernel_rfl) (fun _ _ _ h => h) (Or.inl ⟨by rfl, ?_⟩) hHeld ?_
        rotate_left 1
        · (intro w hSw; go_simp; try with_reducible rfl)
        try simp only [Act.put, List.setIfInBounds_toArray, List.set_cons_zero, List.set_cons_succ]
        refine takeL 2 (v := ?_) rfl (by kernel_rfl) (by kernel_rfl) (by kernel_rfl) (fun _ _ _ h => h) (Or.inl ⟨by rfl, ?_⟩) hHeld ?_
        rotate_left 1
        · (intro w hSw; go_simp; try with_reducible rfl)
        try simp only [Act.put, List.setIfInBounds_toArray, List.set_cons_zero, List.set_cons_succ]
        refine takeL 3 rfl (by kernel_rfl) (by kernel_rfl) (by kernel_rfl) (fun _ _ _ h => h) (yieldsIf_load_mid (by rfl) _ _ rfl _ _ rfl _ _ (fun w hSw => hSw.1) Try.underlying24 rfl (by kernel_rfl)) hHeld ?_
        try simp only [Act.put, List.setIfInBounds_toArray, List.set_cons_zero, List.set_cons_succ]
        refine takeL 4 (v := ?_) rfl (by kernel_rfl) (by kernel_rfl) (by kernel_rfl) (fun _ _ _ h => h) (Or.inl ⟨by rfl, ?_⟩) hHeld ?_
        rotate_left 1
        · (intro w hSw; go_simp; try with_reducible rfl)
        try simp only [Act.put, List.setIfInBounds_toArray, List.set_cons_zero, List.set_cons_succ]
        refine takeL 5 (v := ?_) rfl (by kernel_rfl) (by kernel_rfl) (by kernel_rfl) (fun _ _ _ h => h) (Or.inl ⟨by rfl, ?_⟩) hHeld ?_
        rotate_left 1
        · (intro w hSw; go_simp; try with_reducible rfl)
        try simp only [Act.put, List.setIfInBounds_toArray, List.set_cons_zero, List.set_cons_succ]
        refine takeL 6 (v := ?_) rfl (by kernel_rfl) (by kernel_rfl) (by kernel_rfl) (fun _ _ _ h => h) (Or.inl ⟨by rfl, ?_⟩) hHeld ?_
        rotate_left 1
        · (intro w hSw; go_simp; try with_reducible rfl)
        try simp only [Act.put, List.setIfInBounds_toArray, List.set_cons_zero, List.set_cons_succ]
        refine takeL 7 (v := ?_) rfl (by kernel_rfl) (by kernel_rfl) (by kernel_rfl) (fun _ _ _ h => h) (Or.inl ⟨by rfl, ?_⟩) hHeld ?_
        rotate_left 1
        · (intro w hSw; go_simp; try with_reducible rfl)
        try simp only [Act.put, List.setIfInBounds_toArray, List.set_cons_zero, List.set_cons_succ]
        refine takeL 8 rfl (by kernel_rfl) (by kernel_rfl) (by kernel_rfl) (fun _ _ _ h => h) (yieldsIf_load_mid (by rfl) _ _ rfl _ _ rfl _ _ (fun w hSw => hSw.2) Try.underlying24 rfl (by kernel_rfl)) hHeld ?_
        try simp only [Act.put, List.setIfInBounds_toArray, List.set_cons_zero, List.set_cons_succ]
        refine stepL 9 (by kernel_rfl) rfl (fun K hK => ?_)
        go_simp
        refine (HLs.out W0).mono ?_
        rintro e W1 ⟨rfl, hb⟩
        show K _ _
        have P9 : Bx (OwnG 56 8 encZ W1 wa.heap.size (.slice o1 o2 o3) vals ∧ Below wa.heap.size wa W1) := Bx.mk ⟨P0.out.1.later hb, P0.out.2.trans (hb.mono P0.out.2.size)⟩
        clear hb P0
        refine hK.out _ _ (HSS.out _ P9.out.2) (fun hHeld => ?_)
        clear hK K
        try simp only [Act.put, List.setIfInBounds_toArray, List.set_cons_zero, List.set_cons_succ]
        refine takeL 10 (v := ?_) rfl (by kernel_rfl) (by kernel_rfl) (by kernel_rfl) (fun _ _ _ h => h) (Or.inl ⟨by rfl, ?_⟩) hHeld ?_
        rotate_left 1
        · (intro w hSw; go_simp; try with_reducible rfl)
        try simp only [Act.put, List.setIfInBounds_toArray, List.set_cons_zero, List.set_cons_succ]
        refine wpAnyH_done (by kernel_rfl) ?_ _
        refine NoPanic.normal ?_
        clear hHeld
        clear HSS HLs
        cases L
        · have k0 : W1.cell? ⟨g, k * 8, none⟩ = some (.int .i64 yi) := GY.out _ P9.out.2 0 _ rfl
          have k1 : W1.cell? ⟨g, k * 8 + 1, none⟩ = some (.int .i64 yr) := GY.out _ P9.out.2 1 _ rfl
          have k2 : W1.cell? ⟨g, k * 8 + 2, none⟩ = some (.int .i64 yx) := GY.out _ P9.out.2 2 _ rfl
          have k3 : W1.cell? ⟨g, k * 8 + 3, none⟩ = some (.int .i64 yq) := GY.out _ P9.out.2 3 _ rfl
          have k4 : W1.cell? ⟨g, k * 8 + 4, none⟩ = some (.bool yk.isSome) := GY.out _ P9.out.2 4 _ rfl
          have k5 : W1.cell? ⟨g, k * 8 + 5, none⟩ = some (.int .i64 ya) := GY.out _ P9.out.2 5 _ rfl
          have k6 : W1.cell? ⟨g, k * 8 + 6, none⟩ = some (ykv) := GY.out _ P9.out.2 6 _ rfl
          have k7 : W1.cell? ⟨g, k * 8 + 7, none⟩ = some (ytv) := GY.out _ P9.out.2 7 _ rfl
          have A0 : Bx (OwnG 56 8 encZ (W1.alloc (.cells #[.int .i64 yi, .int .i64 yr, .int .i64 yx, .int .i64 yq, .bool yk.isSome, .int .i64 ya, ykv, ytv] 56)) wa.heap.size (.slice o1 o2 o3) vals ∧ Below wa.heap.size wa (W1.alloc (.cells #[.int .i64 yi, .int .i64 yr, .int .i64 yx, .int .i64 yq, .bool yk.isSome, .int .i64 ya, ykv, ytv] 56))) := Bx.mk ⟨P9.out.1.later (below_a _), P9.out.2.trans ((below_a _).mono P9.out.2.size)⟩
          go_wp2_with (refine wpList_apG (T := 56) (n := 8) (enc := encZ) elEn rfl _ _ rfl wa.heap.size _ vals (by rfl) A0.out.1 W1.heap.size 0 ⟨⟨⟨yi, yr, yx, yq⟩, yp, ys, yk, yaa⟩, ykv, ytv, yns, ya⟩ 1 (by rfl) (row_rng15 (l := encZ ⟨⟨⟨yi, yr, yx, yq⟩, yp, ys, yk, yaa⟩, ykv, ytv, yns, ya⟩) (hnew _ _ _ rfl)) rfl HZ.out (by have := HLen.out; simp; omega) A0.out.2.size ?_; intro v5 w5 ho hg; have P1 : Bx (OwnG 56 8 encZ w5 wa.heap.size v5 (vals ++ [⟨⟨⟨yi, yr, yx, yq⟩, yp, ys, yk, yaa⟩, ykv, ytv, yns, ya⟩]) ∧ Below wa.heap.size wa w5) := Bx.mk ⟨ho, A0.out.2.trans (OwnG.below A0.out.1 hg A0.out.2.size)⟩; clear ho hg)
          clear k0 k1 k2 k3 k4 k5 k6 k7 A0 P9
          obtain ⟨s0, t0, hs0, -, -⟩ := P1.out.1.form
          subst hs0
          go_roundw
          case rel => exact ⟨k + 1, _, _, _, _, _, by omega, by go_num, rfl, rfl, ⟨P1.out.1, P1.out.2, HAd.out.2.1 HS.out HLq.out⟩⟩
          case measure => simp [intOf]; omega
        · have k0 : W1.cell? ⟨X, 0, none⟩ = some (.int .i64 i) := by rw [cell_of_row _ _ _ _ _ _ (HX.out _ P9.out.2)]; rfl
          have k1 : W1.cell? ⟨X, 1, none⟩ = some (.int .i64 r) := by rw [cell_of_row _ _ _ _ _ _ (HX.out _ P9.out.2)]; rfl
          have k2 : W1.cell? ⟨X, 2, none⟩ = some (.int .i64 x) := by rw [cell_of_row _ _ _ _ _ _ (HX.out _ P9.out.2)]; rfl
          have k3 : W1.cell? ⟨X, 3, none⟩ = some (.int .i64 q) := by rw [cell_of_row _ _ _ _ _ _ (HX.out _ P9.out.2)]; rfl
          have A0 : Bx (OwnG 56 8 encZ (W1.alloc (.cells #[.int .i64 i, .int .i64 r, .int .i64 x, .int .i64 q, .bool false, .int .i64 tk, .slice none 0 0, .slice none 0 0] 56)) wa.heap.size (.slice o1 o2 o3) vals ∧ Below wa.heap.size wa (W1.alloc (.cells #[.int .i64 i, .int .i64 r, .int .i64 x, .int .i64 q, .bool false, .int .i64 tk, .slice none 0 0, .slice none 0 0] 56))) := Bx.mk ⟨P9.out.1.later (below_a _), P9.out.2.trans ((below_a _).mono P9.out.2.size)⟩
          go_upto_region 14 with (refine wpList_apG (T := 56) (n := 8) (enc := encZ) elEn rfl _ _ rfl wa.heap.size _ vals (by rfl) A0.out.1 W1.heap.size 0 (newZ ⟨i, r, x, q⟩ tk) 1 (by rfl) (row_rng15 (l := encZ (newZ ⟨i, r, x, q⟩ tk)) (hnew _ _ _ rfl)) rfl (encZ_one _ rfl rfl) (by have := HLen.out; simp; omega) A0.out.2.size ?_; intro v5 w5 ho hg; have P1 : Bx (OwnG 56 8 encZ w5 wa.heap.size v5 (vals ++ [(newZ ⟨i, r, x, q⟩ tk)]) ∧ Below wa.heap.size wa w5) := Bx.mk ⟨ho, A0.out.2.trans (OwnG.below A0.out.1 hg A0.out.2.size)⟩; clear ho hg)
          clear k0 k1 k2 k3 A0 P9
          obtain ⟨s0, t0, hs0, -, -⟩ := P1.out.1.form
          subst hs0
          have k0 : w5.cell? ⟨g, k * 8, none⟩ = some (.int .i64 yi) := GY.out _ P1.out.2 0 _ rfl
          have k1 : w5.cell? ⟨g, k * 8 + 1, none⟩ = some (.int .i64 yr) := GY.out _ P1.out.2 1 _ rfl
          have k2 : w5.cell? ⟨g, k * 8 + 2, none⟩ = some (.int .i64 yx) := GY.out _ P1.out.2 2 _ rfl
          have k3 : w5.cell? ⟨g, k * 8 + 3, none⟩ = some (.int .i64 yq) := GY.out _ P1.out.2 3 _ rfl
          have k4 : w5.cell? ⟨g, k * 8 + 4, none⟩ = some (.bool yk.isSome) := GY.out _ P1.out.2 4 _ rfl
          have k5 : w5.cell? ⟨g, k * 8 + 5, none⟩ = some (.int .i64 ya) := GY.out _ P1.out.2 5 _ rfl
          have k6 : w5.cell? ⟨g, k * 8 + 6, none⟩ = some (ykv) := GY.out _ P1.out.2 6 _ rfl
          have k7 : w5.cell? ⟨g, k * 8 + 7, none⟩ = some (ytv) := GY.out _ P1.out.2 7 _ rfl
          have A1 : Bx (OwnG 56 8 encZ (w5.alloc (.cells #[.int .i64 yi, .int .i64 yr, .int .i64 yx, .int .i64 yq, .bool yk.isSome, .int .i64 ya, ykv, ytv] 56)) wa.heap.size (.slice s0 ((vals ++ [(newZ ⟨i, r, x, q⟩ tk)])).length t0) (vals ++ [(newZ ⟨i, r, x, q⟩ tk)]) ∧ Below wa.heap.size wa (w5.alloc (.cells #[.int .i64 yi, .int .i64 yr, .int .i64 yx, .int .i64 yq, .bool yk.isSome, .int .i64 ya, ykv, ytv] 56))) := Bx.mk ⟨P1.out.1.later (below_a _), P1.out.2.trans ((below_a _).mono P1.out.2.size)⟩
          go_wp2_with (refine wpList_apG (T := 56) (n := 8) (enc := encZ) elEn rfl _ _ rfl wa.heap.size _ (vals ++ [(newZ ⟨i, r, x, q⟩ tk)]) (by rfl) A1.out.1 w5.heap.size 0 ⟨⟨⟨yi, yr, yx, yq⟩, yp, ys, yk, yaa⟩, ykv, ytv, yns, ya⟩ 1 (by rfl) (row_rng15 (l := encZ ⟨⟨⟨yi, yr, yx, yq⟩, yp, ys, yk, yaa⟩, ykv, ytv, yns, ya⟩) (hnew _ _ _ rfl)) rfl HZ.out (by have := HLen.out; simp; omega) A1.out.2.size ?_; intro v6 w6 ho hg; have P2 : Bx (OwnG 56 8 encZ w6 wa.heap.size v6 ((vals ++ [(newZ ⟨i, r, x, q⟩ tk)]) ++ [⟨⟨⟨yi, yr, yx, yq⟩, yp, ys, yk, yaa⟩, ykv, ytv, yns, ya⟩]) ∧ Below wa.heap.size wa w6) := Bx.mk ⟨ho, A1.out.2.trans (OwnG.below A1.out.1 hg A1.out.2.size)⟩; clear ho hg)
          clear k0 k1 k2 k3 k4 k5 k6 k7 A1 P1
          obtain ⟨s1, t1, hs1, -, -⟩ := P2.out.1.form
          subst hs1
          go_roundw
          case rel => exact ⟨k + 1, _, _, _, _, _, by omega, by go_num, rfl, rfl, ⟨P2.out.1, P2.out.2, HAd.out.2.2 HS.out HLq.out⟩⟩
          case measure => simp [intOf]; omega
      · go_upto_region 12 with fail
        have P0 : Bx (OwnG 56 8 encZ wr.drew wa.heap.size (.slice o1 o2 o3) vals ∧ Below wa.heap.size wa wr.drew) := Bx.mk ⟨HI.out.1.later (Below.refl _ _).drew, HI.out.2.1.drew⟩
        have HS := Bx.mk HI.out.2.2
        refine wp_region_noPanic ?_
        refine wp_region_held_drew (S := fun _ => True) (by kernel_rfl) (trivial) (fun hHeld => ?_)
        generalize wr.drew = W0 at *
        clear HI
        clear wr
        refine takeL 0 (v := ?_) rfl (by kernel_rfl) (by kernel_rfl) (by kernel_rfl) (fun _ _ _ h => h) (Or.inl ⟨by rfl, ?_⟩) hHeld ?_
        rotate_left 1
        · (intro w hSw; go_simp; try with_reducible rfl)
        try simp only [Act.put, List.setIfInBounds_toArray, List.set_cons_zero, List.set_cons_succ]
        refine takeL 1 (v := ?_) rfl (by kernel_rfl) (by kernel_rfl) (by kernel_rfl) (fun _ _ _ h => h) (Or.inl ⟨by rfl, ?_⟩) hHeld ?_
        rotate_left 1
        · (intro w hSw; go_simp; try with_reducible rfl)
        try simp only [Act.put, List.setIfInBounds_toArray, List.set_cons_zero, List.set_cons_succ]
        refine takeL 2 (v := ?_) rfl (by kernel_rfl) (by kernel_rfl) (by kernel_rfl) (fun _ _ _ h => h) (Or.inl ⟨by rfl, ?_⟩) hHeld ?_
        rotate_left 1
        · (intro w hSw; go_simp; try with_reducible rfl)
        try simp only [Act.put, List.setIfInBounds_toArray, List.set_cons_zero, List.set_cons_succ]
        refine takeL 3 (v := undef) rfl (by kernel_rfl) (by kernel_rfl) (by kernel_rfl) (fun _ _ _ h => h) (Or.inr ⟨by rfl, rfl⟩) hHeld ?_
        try simp only [Act.put, List.setIfInBounds_toArray, List.set_cons_zero, List.set_cons_succ]
        refine takeL 4 (v := undef) rfl (by kernel_rfl) (by kernel_rfl) (by kernel_rfl) (fun _ _ _ h => h) (Or.inr ⟨by rfl, rfl⟩) hHeld ?_
        try simp only [Act.put, List.setIfInBounds_toArray, List.set_cons_zero, List.set_cons_succ]
        refine takeL 5 (v := undef) rfl (by kernel_rfl) (by kernel_rfl) (by kernel_rfl) (fun _ _ _ h => h) (Or.inr ⟨by rfl, rfl⟩) hHeld ?_
        try simp only [Act.put, List.setIfInBounds_toArray, List.set_cons_zero, List.set_cons_succ]
        refine takeL 6 (v := undef) rfl (by kernel_rfl) (by kernel_rfl) (by kernel_rfl) (fun _ _ _ h => h) (Or.inr ⟨by rfl, rfl⟩) hHeld ?_
        try simp only [Act.put, List.setIfInBounds_toArray, List.set_cons_zero, List.set_cons_succ]
        refine takeL 7 (v := undef) rfl (by kernel_rfl) (by kernel_rfl) (by kernel_rfl) (fun _ _ _ h => h) (Or.inr ⟨by rfl, rfl⟩) hHeld ?_
        try simp only [Act.put, List.setIfInBounds_toArray, List.set_cons_zero, List.set_cons_succ]
        refine takeL 8 (v := undef) rfl (by kernel_rfl) (by kernel_rfl) (by kernel_rfl) (fun _ _ _ h => h) (Or.inr ⟨by rfl, rfl⟩) hHeld ?_
        try simp only [Act.put, List.setIfInBounds_toArray, List.set_cons_zero, List.set_cons_succ]
        refine takeL 9 (v := undef) rfl (by kernel_rfl) (by kernel_rfl) (by kernel_rfl) (fun _ _ _ h => h) (Or.inr ⟨by rfl, rfl⟩) hHeld ?_
        try simp only [Act.put, List.setIfInBounds_toArray, List.set_cons_zero, List.set_cons_succ]
        refine takeL 10 (v := ?_) rfl (by kernel_rfl) (by kernel_rfl) (by kernel_rfl) (fun _ _ _ h => h) (Or.inl ⟨by rfl, ?_⟩) hHeld ?_
        rotate_left 1
        · (intro w hSw; go_simp; try with_reducible rfl)
        try simp only [Act.put, List.setIfInBounds_toArray, List.set_cons_zero, List.set_cons_succ]
        refine wpAnyH_done (by kernel_rfl) ?_ _
        refine NoPanic.normal ?_
        clear hHeld
        clear HSS HLs
        have k0 : W0.cell? ⟨g, k * 8, none⟩ = some (.int .i64 yi) := GY.out _ P0.out.2 0 _ rfl
        have k1 : W0.cell? ⟨g, k * 8 + 1, none⟩ = some (.int .i64 yr) := GY.out _ P0.out.2 1 _ rfl
        have k2 : W0.cell? ⟨g, k * 8 + 2, none⟩ = some (.int .i64 yx) := GY.out _ P0.out.2 2 _ rfl
        have k3 : W0.cell? ⟨g, k * 8 + 3, none⟩ = some (.int .i64 yq) := GY.out _ P0.out.2 3 _ rfl
        have k4 : W0.cell? ⟨g, k * 8 + 4, none⟩ = some (.bool yk.isSome) := GY.out _ P0.out.2 4 _ rfl
        have k5 : W0.cell? ⟨g, k * 8 + 5, none⟩ = some (.int .i64 ya) := GY.out _ P0.out.2 5 _ rfl
        have k6 : W0.cell? ⟨g, k * 8 + 6, none⟩ = some (ykv) := GY.out _ P0.out.2 6 _ rfl
        have k7 : W0.cell? ⟨g, k * 8 + 7, none⟩ = some (ytv) := GY.out _ P0.out.2 7 _ rfl
        have A0 : Bx (OwnG 56 8 encZ (W0.alloc (.cells #[.int .i64 yi, .int .i64 yr, .int .i64 yx, .int .i64 yq, .bool yk.isSome, .int .i64 ya, ykv, ytv] 56)) wa.heap.size (.slice o1 o2 o3) vals ∧ Below wa.heap.size wa (W0.alloc (.cells #[.int .i64 yi, .int .i64 yr, .int .i64 yx, .int .i64 yq, .bool yk.isSome, .int .i64 ya, ykv, ytv] 56))) := Bx.mk ⟨P0.out.1.later (below_a _), P0.out.2.trans ((below_a _).mono P0.out.2.size)⟩
        go_wp2_with (refine wpList_apG (T := 56) (n := 8) (enc := encZ) elEn rfl _ _ rfl wa.heap.size _ vals (by rfl) A0.out.1 W0.heap.size 0 ⟨⟨⟨yi, yr, yx, yq⟩, yp, ys, yk, yaa⟩, ykv, ytv, yns, ya⟩ 1 (by rfl) (row_rng15 (l := encZ ⟨⟨⟨yi, yr, yx, yq⟩, yp, ys, yk, yaa⟩, ykv, ytv, yns, ya⟩) (hnew _ _ _ rfl)) rfl HZ.out (by have := HLen.out; simp; omega) A0.out.2.size ?_; intro v5 w5 ho hg; have P1 : Bx (OwnG 56 8 encZ w5 wa.heap.size v5 (vals ++ [⟨⟨⟨yi, yr, yx, yq⟩, yp, ys, yk, yaa⟩, ykv, ytv, yns, ya⟩]) ∧ Below wa.heap.size wa w5) := Bx.mk ⟨ho, A0.out.2.trans (OwnG.below A0.out.1 hg A0.out.2.size)⟩; clear ho hg)
        clear k0 k1 k2 k3 k4 k5 k6 k7 A0 P0
        obtain ⟨s0, t0, hs0, -, -⟩ := P1.out.1.form
        subst hs0
        go_roundw
        case rel => exact ⟨k + 1, _, _, _, _, _, by omega, by go_num, rfl, rfl, ⟨P1.out.1, P1.out.2, HAd.out.1 HS.out⟩⟩
        case measure => simp [intOf]; omega
    · obtain rfl : k = n := by omega
      have HX : Bx (∀ W, Below wa.heap.size wa W → W.heap[X]? = some (.cells #[.int .i64 i, .int .i64 r, .int .i64 x, .int .i64 q] 24 (0, 0))) := Bx.mk fun W hb => by rw [hb.block X HW.out.2.2.2.1]; exact HW.out.2.1
      have HLen : Bx (vals.length ≤ 101) := Bx.mk (by have := HI.out.2.2.length; rw [HN.out] at this; omega)
      have HT : Bx (m.take k = m) := Bx.mk (List.take_of_length_le (by rw [HN.out]; exact Nat.le_refl _))
      have HS := HI.out.2.2
      unfold AddZ at HS
      rw [HT.out] at HS
      have P0 : Bx (OwnG 56 8 encZ wr wa.heap.size (.slice o1 o2 o3) vals ∧ Below wa.heap.size wa wr) := Bx.mk ⟨HI.out.1, HI.out.2.1⟩
      clear HI
      cases pb
      · have HV : Bx (vals ++ [(newZ ⟨i, r, x, q⟩ tk)] = insZ (newZ ⟨i, r, x, q⟩ tk) m) := Bx.mk (by
          rcases HS with ⟨_, h1, h2⟩ | ⟨h, _⟩
          · rw [h1, insZ_none _ _ h2]
          · cases h)
        clear HS
        have k0 : wr.cell? ⟨X, 0, none⟩ = some (.int .i64 i) := by rw [cell_of_row _ _ _ _ _ _ (HX.out _ P0.out.2)]; rfl
        have k1 : wr.cell? ⟨X, 1, none⟩ = some (.int .i64 r) := by rw [cell_of_row _ _ _ _ _ _ (HX.out _ P0.out.2)]; rfl
        have k2 : wr.cell? ⟨X, 2, none⟩ = some (.int .i64 x) := by rw [cell_of_row _ _ _ _ _ _ (HX.out _ P0.out.2)]; rfl
        have k3 : wr.cell? ⟨X, 3, none⟩ = some (.int .i64 q) := by rw [cell_of_row _ _ _ _ _ _ (HX.out _ P0.out.2)]; rfl
        have A0 : Bx (OwnG 56 8 encZ (wr.alloc (.cells #[.int .i64 i, .int .i64 r, .int .i64 x, .int .i64 q, .bool false, .int .i64 tk, .slice none 0 0, .slice none 0 0] 56)) wa.heap.size (.slice o1 o2 o3) vals ∧ Below wa.heap.size wa (wr.alloc (.cells #[.int .i64 i, .int .i64 r, .int .i64 x, .int .i64 q, .bool false, .int .i64 tk, .slice none 0 0, .slice none 0 0] 56))) := Bx.mk ⟨P0.out.1.later (below_a _), P0.out.2.trans ((below_a _).mono P0.out.2.size)⟩
        go_wp2_with (refine wpList_apG (T := 56) (n := 8) (enc := encZ) elEn rfl _ _ rfl wa.heap.size _ vals (by rfl) A0.out.1 wr.heap.size 0 (newZ ⟨i, r, x, q⟩ tk) 1 (by rfl) (row_rng15 (l := encZ (newZ ⟨i, r, x, q⟩ tk)) (hnew _ _ _ rfl)) rfl (encZ_one _ rfl rfl) (by have := HLen.out; omega) A0.out.2.size ?_; intro v5 w5 ho hg; have P1 : Bx (OwnG 56 8 encZ w5 wa.heap.size v5 (insZ (newZ ⟨i, r, x, q⟩ tk) m) ∧ Below wa.heap.size wa w5) := Bx.mk ⟨by rw [← HV.out]; exact ho, A0.out.2.trans (OwnG.below A0.out.1 hg A0.out.2.size)⟩; clear ho hg)
        try rw [Exit.noGoto_ret]
        go_ret2
        exact ⟨_, rfl, OwnG.weak P1.out.1 HW.out.2.2.2.2, HW.out.2.2.1.trans (P1.out.2.mono HW.out.2.2.2.2)⟩
      · have HV : Bx (vals = insZ (newZ ⟨i, r, x, q⟩ tk) m) := Bx.mk (by
          rcases HS with ⟨h, _⟩ | ⟨_, h1, _⟩
          · cases h
          · exact h1)
        clear HS
        go_wp2
        try rw [Exit.noGoto_ret]
        go_ret2
        exact ⟨_, rfl, by rw [← HV.out]; exact OwnG.weak P0.out.1 HW.out.2.2.2.2, HW.out.2.2.1.trans (P0.out.2.mono HW.out.2.2.2.2)⟩
end Go.Proofs.Ytdbdpehagkglfaa
namespace Go.Proofs.Ytdbdpehagkglfaa
open Go Go.RowKit
/-- All blocks stay but those of entries of the document. -/
structure KT (W W1 : World) : Prop where
  os : W1.os = W.os
  tape : W1.tape = W.tape
  output : W1.output = W.output
  size : W.heap.size ≤ W1.heap.size
  block : ∀ (i : Nat) (o : Obj), W.heap[i]? = some o → (∀ cs fr, o ≠ Obj.cells cs 56 fr) → W1.heap[i]? = some o
theorem KT.of {W W1 : World} (h : Below W.heap.size W W1) : KT W W1 := ⟨h.os, h.tape, h.output, h.size, fun i o h0 _ => by rw [h.block i (Array.getElem?_eq_some_iff.1 h0).1]; exact h0⟩
theorem KT.trans {W W1 W2 : World} (h : KT W W1) (k : KT W1 W2) : KT W W2 := ⟨k.os.trans h.os, k.tape.trans h.tape, k.output.trans h.output, Nat.le_trans h.size k.size, fun i o h0 h1 => k.block i o (h.block i o h0 h1) h1⟩
theorem KT.by_ {W W1 : World} {g : Nat} (h : W.grownBy W1 (some g)) (hg : ∃ cs fr, W.heap[g]? = some (.cells cs 56 fr)) : KT W W1 := ⟨h.os, h.tape, h.output, h.size, fun i o h0 h1 => by
  rw [h.block i (Array.getElem?_eq_some_iff.1 h0).1 (fun e => by
    injection e with e
    subst e
    obtain ⟨cs, fr, hg⟩ := hg
    rw [h0] at hg
    exact h1 cs fr (Option.some.inj hg))]
  exact h0⟩
theorem ne_cells {cs cs' : Array Value} {T T' : TypeId} {fr fr' : Nat × Nat} (h : T ≠ T') : Obj.cells cs T fr ≠ .cells cs' T' fr' := fun e => by
  injection e with _ e
  exact h e
theorem OwnB.keepT {base : Nat} {W W1 : World} {v : Value} {bs : List UInt8} (h : OwnB W base v bs) (k : KT W W1) : OwnB W1 base v bs := by
  obtain ⟨h1, h2⟩ := h
  refine ⟨h1, ?_⟩
  rcases h2 with h0 | ⟨g, cap, cur, hv', hb', hg, hr'⟩
  · exact .inl h0
  · exact .inr ⟨g, cap, cur, hv', hb', k.block g _ hg (fun _ _ => ne_cells (by decide)), hr'⟩
theorem KeyO.keepT {base : Nat} {W W1 : World} {v : Value} {bs : List UInt8} (h : KeyO W base v bs) (k : KT W W1) : KeyO W1 base v bs := by
  obtain ⟨p, s, hv, hp, hr, ho⟩ := h
  exact ⟨p, s, hv, hp, k.block p _ hr (fun _ _ => ne_cells (by decide)), ho.keepT k⟩
theorem OwnN.keepT {T : TypeId} {base : Nat} {W W1 : World} {v : Value} {l : List Nn} (h : OwnN T W base v l) (k : KT W W1) (hT : T ≠ 56) : OwnN T W1 base v l :=
  h.kept fun g _ _ _ h0 => k.block g _ h0 (fun _ _ => ne_cells hT)
theorem EntAt.keepT {B : Nat} {W W1 : World} {e : En} (h : EntAt B W e) (k : KT W W1) : EntAt B W1 e := by
  obtain ⟨⟨kv, h1, h2⟩, h3, h4, h5, h6⟩ := h
  refine ⟨⟨kv, k.block _ _ h1 (fun _ _ => ne_cells (by decide)), ?_⟩, h3, h4, h5, h6⟩
  rcases h2 with h2 | ⟨bs, g1, g2, g3⟩
  · exact .inl h2
  · exact .inr ⟨bs, g1, g2.keepT k, g3⟩
theorem BookAt.keepT {B Q : Nat} {l : List En} {W W1 : World} (h : BookAt B Q l W) (k : KT W W1) : BookAt B Q l W1 := by
  obtain ⟨mb, ml, h1, h2, h3⟩ := h.row
  refine ⟨⟨mb, ml, k.block _ _ h1 (fun _ _ => ne_cells (by decide)), ?_, h3⟩, fun e he => (h.ent e he).keepT k, h.dist, h.keys, h.qB⟩
  rcases h2 with h2 | ⟨M, g1, g2, g3⟩
  · exact .inl h2
  · refine .inr ⟨M, g1, g2, g3.later ?_⟩
    obtain ⟨es, clock, hb, -⟩ := g3.st
    rw [hb]
    exact k.block _ _ hb (fun _ _ e => by cases e)
theorem RowZ.row {w : World} {base g n cap : Nat} {zs : List Zz} (h : RowZ w base (.slice (some ⟨g, 0, none⟩) n cap) zs) : ∃ cs fr, w.heap[g]? = some (.cells cs 56 fr) := OwnG.kind h g rfl
set_option maxRecDepth 100000 in
set_option maxHeartbeats 4000000 in
theorem rput_out (base : Nat) (mv : Value) (zs : List Zz) (c : Cl) (a0 : Option Addr) (n0 c0' : Nat) (w : World) (h : RowZ w base mv zs) (hl : zs.length ≤ 1000) (hn : ∀ z ∈ zs, z.e.c ≠ c) : Calls Try.prog 15 #[mv, clV c, .slice a0 n0 c0'] w fun e w' => e = .returned (.int .i64 7) ∧ Below w.heap.size w w' := by
  have HF : Bx (∀ W, Below w.heap.size w W → Calls Try.prog 19 #[mv, clV c] W fun e w' => e = .returned (.int .i64 (-1)) ∧ Below W.heap.size W w') := Bx.mk fun W hB => rfind_out base mv zs c W (OwnG.later h hB) hl hn
  obtain ⟨a, cap, rfl, -, -⟩ := OwnG.form h
  generalize zs.length = zn at *
  clear h hn
  obtain ⟨i, r, x, q⟩ := c
  unfold clV at *
  simp only at HF ⊢
  have HBe := Bx.mk (And.intro (box_rng w ⟨i, r, x, q⟩ 24) (below_a (W := w) (.cells #[.int .i64 i, .int .i64 r, .int .i64 x, .int .i64 q] 24)))
  have hrg := HBe.out.1
  go_enter Try.func15, Try.ntmps15
  go_wp2_with (refine wpList_load_mid rfl _ _ rfl _ _ rfl _ _ hrg Try.underlying24 rfl (by kernel_rfl) ?_)
  refine (HF.out _ HBe.out.2).mono ?_
  rintro e w1 ⟨rfl, hb⟩
  have R1 := Bx.mk (HBe.out.2.trans (hb.mono HBe.out.2.size))
  clear hb hrg HBe HF
  go_wp2
  go_ret
  exact ⟨rfl, R1.out⟩
set_option maxRecDepth 100000 in
set_option maxHeartbeats 4000000 in
theorem rput_known (base : Nat) (mv : Value) (zs : List Zz) (c : Cl) (a0 : Option Addr) (n0 c0' : Nat) (w : World) (h : RowZ w base mv zs) (hl : zs.length ≤ 1000) (K : Nat) (hK : K < zs.length) (hc : (zs[K]).e.c = c) (hb : ∀ j (hj : j < zs.length), j < K → (zs[j]).e.c ≠ c) (hk : (zs[K]).e.k.isSome = true) : Calls Try.prog 15 #[mv, clV c, .slice a0 n0 c0'] w fun e w' => e = .returned (.int .i64 7) ∧ Below w.heap.size w w' := by
  have HF : Bx (∀ W, Below w.heap.size w W → Calls Try.prog 19 #[mv, clV c] W fun e w' => e = .returned (.int .i64 (K : Int)) ∧ Below W.heap.size W w') := Bx.mk fun W hB => rfind_at base mv zs c W (OwnG.later h hB) hl K hK hc hb
  obtain ⟨g, cap, hmv⟩ := OwnG.start h (by omega)
  subst hmv
  have HC := Bx.mk (fun W (hB : Below w.heap.size w W) => rngZ ((OwnG.later h hB).at_ encZ_len K hK))
  rw [hk] at HC
  obtain ⟨zn, hzn⟩ : ∃ zn, zs.length = zn := ⟨_, rfl⟩
  have hKz : (K : Int) < (zn : Int) := by omega
  have hK0 : (0 : Int) ≤ (K : Int) := by omega
  have hKn : ¬ (K : Int) < 0 := by omega
  rw [hzn] at HF ⊢
  clear h hc hb hk hzn
  obtain ⟨i, r, x, q⟩ := c
  unfold clV at *
  simp only at HF ⊢
  have HBe := Bx.mk (And.intro (box_rng w ⟨i, r, x, q⟩ 24) (below_a (W := w) (.cells #[.int .i64 i, .int .i64 r, .int .i64 x, .int .i64 q] 24)))
  have hrg := HBe.out.1
  go_enter Try.func15, Try.ntmps15
  go_wp2_with (refine wpList_load_mid rfl _ _ rfl _ _ rfl _ _ hrg Try.underlying24 rfl (by kernel_rfl) ?_)
  refine (HF.out _ HBe.out.2).mono ?_
  rintro e w1 ⟨rfl, hb⟩
  have R1 := Bx.mk (HBe.out.2.trans (hb.mono HBe.out.2.size))
  clear hb hrg HBe HF
  obtain ⟨q4, -, -, -⟩ := HC.out _ R1.out
  go_wp2
  go_ret
  exact ⟨rfl, R1.out⟩
set_option maxRecDepth 100000 in
set_option maxHeartbeats 4000000 in
theorem rput_ok (base : Nat) (mv : Value) (zs : List Zz) (c : Cl) (kv : Value) (bs : List UInt8) (w : World) (h : RowZ w base mv zs) (hl : zs.length ≤ 1000) (K : Nat) (hK : K < zs.length) (hc : (zs[K]).e.c = c) (hb : ∀ j (hj : j < zs.length), j < K → (zs[j]).e.c ≠ c) (hk : (zs[K]).e.k.isSome = false) (hkv : Bytes w kv bs) (hbl : bs.length ≤ 1000) :
    Calls Try.prog 15 #[mv, clV c, kv] w fun e w' => e = .returned (.int .i64 0) ∧ w.grownBy w' mv.ownBlock ∧ ∃ kv', OwnB w' w.heap.size kv' bs ∧ ∀ e' : En, e'.c = c → e'.k.isSome = true → RowZ w' base mv (zs.set K ⟨e', kv', (zs[K]).tv, (zs[K]).ns, (zs[K]).ask⟩) := by
  have HF : Bx (∀ W, Below w.heap.size w W → Calls Try.prog 19 #[mv, clV c] W fun e w' => e = .returned (.int .i64 (K : Int)) ∧ Below W.heap.size W w') := Bx.mk fun W hB => rfind_at base mv zs c W (OwnG.later h hB) hl K hK hc hb
  obtain ⟨g, cap, hmv⟩ := OwnG.start h (by omega)
  subst hmv
  have HC := Bx.mk (fun W (hB : Below w.heap.size w W) => rngZ ((OwnG.later h hB).at_ encZ_len K hK))
  rw [hk] at HC
  have HFz : Bx (∀ W, Below w.heap.size w W → ∀ i, W.frozen? ⟨g, i, none⟩ = false) := Bx.mk fun W hB i => (OwnG.later h hB).frozen i
  have HE : Bx (∀ W kv' , Below w.heap.size w W → OwnB W w.heap.size kv' bs → w.grownBy ((W.setCell ⟨g, K * 8 + 4, none⟩ (.bool true)).setCell ⟨g, K * 8 + 6, none⟩ kv') (some g) ∧ OwnB ((W.setCell ⟨g, K * 8 + 4, none⟩ (.bool true)).setCell ⟨g, K * 8 + 6, none⟩ kv') w.heap.size kv' bs ∧ ∀ e' : En, e'.c = c → e'.k.isSome = true → RowZ ((W.setCell ⟨g, K * 8 + 4, none⟩ (.bool true)).setCell ⟨g, K * 8 + 6, none⟩ kv') base (.slice (some ⟨g, 0, none⟩) zs.length cap) (zs.set K ⟨e', kv', (zs[K]).tv, (zs[K]).ns, (zs[K]).ask⟩)) := Bx.mk fun W kv' hB ho => by
    have h1 := OwnG.later h hB
    have g1 : W.grownBy (W.setCell ⟨g, K * 8 + 4, none⟩ (.bool true)) (some g) := kb_setCell _ _ _
    have g2 : (W.setCell ⟨g, K * 8 + 4, none⟩ (.bool true)).grownBy ((W.setCell ⟨g, K * 8 + 4, none⟩ (.bool true)).setCell ⟨g, K * 8 + 6, none⟩ kv') (some g) := kb_setCell _ _ _
    have hkt : KT W ((W.setCell ⟨g, K * 8 + 4, none⟩ (.bool true)).setCell ⟨g, K * 8 + 6, none⟩ kv') := KT.by_ (kb_trans g1 g2) (RowZ.row h1)
    refine ⟨kb_trans (kb_below _ hB) (kb_trans g1 g2), ho.keepT hkt, fun e' he1 he2 => ?_⟩
    have h2 := OwnG.set h1 encZ_len K hK 4 (by omega) (.bool true) ⟨e', (zs[K]).kv, (zs[K]).tv, (zs[K]).ns, (zs[K]).ask⟩ (by simp [encZ, he1, he2, hc])
    have h3 := OwnG.set h2 encZ_len K (by rw [List.length_set]; exact hK) 6 (by omega) kv' ⟨e', kv', (zs[K]).tv, (zs[K]).ns, (zs[K]).ask⟩ (by rw [List.getElem_set_self]; simp [encZ])
    rw [List.set_set] at h3
    exact h3
  have HV := Bx.mk (And.intro hkv hbl)
  obtain ⟨ka, kc, rfl, -, -⟩ := bytes_form hkv
  obtain ⟨kn, hkn⟩ : ∃ kn, bs.length = kn := ⟨_, rfl⟩
  rw [hkn] at HV ⊢
  have HKn := Bx.mk hkn
  generalize (zs[K]).kv = zkv at *
  generalize (zs[K]).tv = ztv at *
  generalize (zs[K]).ns = zns at *
  generalize (zs[K]).ask = zask at *
  have hKz : (K : Int) < (zs.length : Int) := by omega
  have hK0 : (0 : Int) ≤ (K : Int) := by omega
  have hKn : ¬ (K : Int) < 0 := by omega
  obtain ⟨zn, hzn⟩ : ∃ zn, zs.length = zn := ⟨_, rfl⟩
  rw [hzn] at HF HE hKz ⊢
  clear h hc hb hk hzn hkv hbl hkn hl
  obtain ⟨i, r, x, q⟩ := c
  unfold clV at *
  simp only at HF ⊢
  have HBe := Bx.mk (And.intro (box_rng w ⟨i, r, x, q⟩ 24) (below_a (W := w) (.cells #[.int .i64 i, .int .i64 r, .int .i64 x, .int .i64 q] 24)))
  have hrg := HBe.out.1
  go_enter Try.func15, Try.ntmps15
  go_wp2_with (refine wpList_load_mid rfl _ _ rfl _ _ rfl _ _ hrg Try.underlying24 rfl (by kernel_rfl) ?_)
  refine (HF.out _ HBe.out.2).mono ?_
  rintro e w1 ⟨rfl, hb⟩
  have R1 := Bx.mk (HBe.out.2.trans (hb.mono HBe.out.2.size))
  clear hb hrg HBe HF
  obtain ⟨q4, -, q6, -⟩ := HC.out _ R1.out
  have R2 : Bx (OwnB (w1.alloc (.cells #[] 5)) w.heap.size (.slice (some ⟨w1.heap.size, 0, none⟩) 0 0) [] ∧ Below w.heap.size w (w1.alloc (.cells #[] 5)) ∧ Bytes (w1.alloc (.cells #[] 5)) (.slice ka kn kc) bs) := Bx.mk ⟨own_empty _ _ R1.out.size, R1.out.alloc R1.out.size _, HV.out.1.later (R1.out.alloc R1.out.size _)⟩
  go_wp2_with (refine wpList_ap rfl _ _ rfl w.heap.size _ [] (by rfl) R2.out.1 _ bs (by rfl) R2.out.2.2 (by have := HV.out.2; have := HKn.out; simp; omega) R2.out.2.1.size ?_; intro v3 w3 h3 g3 _; have R3 : Bx (OwnB w3 w.heap.size v3 bs ∧ Below w.heap.size w w3) := Bx.mk ⟨h3, R2.out.2.1.trans (own_below R2.out.1 g3 R2.out.2.1.size)⟩; clear h3 g3 q4 q6 R2; obtain ⟨q4, -, q6, -⟩ := HC.out _ R3.out.2; have f4 := HFz.out _ R3.out.2 (K * 8 + 4); have f6 := HFz.out _ R3.out.2 (K * 8 + 6); obtain ⟨sa, sc, hs, -, -⟩ := bytes_form R3.out.1.bytes; subst hs)
  go_ret
  obtain ⟨e1, e2, e3⟩ := HE.out _ _ R3.out.2 R3.out.1
  exact ⟨rfl, e1, _, e2, e3⟩
end Go.Proofs.Ytdbdpehagkglfaa
namespace Go.Proofs.Ytdbdpehagkglfaa
open Go Go.RowKit
/-- Is it due? -/
def dueZ (tk : Int) (z : Zz) : Bool := !z.e.k.isSome && decide (8 ≤ tk - z.ask)
/-- What Due leaves of an entry. -/
def updZ (tk : Int) (z : Zz) : Zz := if dueZ tk z then ⟨⟨z.e.c, z.e.p, z.e.s, z.e.k, tk⟩, z.kv, z.tv, z.ns, tk⟩ else z
/-- Whose they are. -/
def dueCs (tk : Int) (zs : List Zz) : List Cl := (zs.filter (dueZ tk)).map (·.e.c)
/-- The first k of them looked at. -/
def duZ (tk : Int) (zs : List Zz) (k : Nat) : List Zz := (zs.take k).map (updZ tk) ++ zs.drop k
theorem duZ_len (tk : Int) (zs : List Zz) (k : Nat) (hk : k ≤ zs.length) : (duZ tk zs k).length = zs.length := by
  unfold duZ
  rw [List.length_append, List.length_map, List.length_take, List.length_drop]
  omega
theorem duZ_at (tk : Int) (zs : List Zz) (k : Nat) (hk : k < zs.length) : (duZ tk zs k)[k]'(by rw [duZ_len tk zs k (by omega)]; exact hk) = zs[k] := by
  have hl : ((zs.take k).map (updZ tk)).length = k := by rw [List.length_map, List.length_take]; omega
  unfold duZ
  rw [List.getElem_append_right (by rw [hl]; exact Nat.le_refl _), List.getElem_drop]
  congr 1
  rw [hl]
  omega
theorem duZ_succ (tk : Int) (zs : List Zz) (k : Nat) (hk : k < zs.length) : duZ tk zs (k + 1) = (duZ tk zs k).set k (updZ tk zs[k]) := by
  have hl : ((zs.take k).map (updZ tk)).length = k := by rw [List.length_map, List.length_take]; omega
  unfold duZ
  rw [List.set_append_right _ _ (by rw [hl]; exact Nat.le_refl _), hl, Nat.sub_self, takeZ_succ zs k hk, List.map_append, List.append_assoc, List.drop_eq_getElem_cons hk, List.set_cons_zero]
  rfl
theorem dueCs_snoc (tk : Int) (zs : List Zz) (k : Nat) (hk : k < zs.length) : dueCs tk (zs.take (k + 1)) = dueCs tk (zs.take k) ++ if dueZ tk zs[k] then [(zs[k]).e.c] else [] := by
  unfold dueCs
  rw [takeZ_succ zs k hk, List.filter_append, List.map_append]
  congr 1
  cases h : dueZ tk zs[k] <;> simp [h]
theorem dueCs_len (tk : Int) (zs : List Zz) : (dueCs tk zs).length ≤ zs.length := by
  unfold dueCs
  rw [List.length_map]
  exact List.length_filter_le _ _
theorem gb_refl (o : Option Nat) (w : World) : w.grownBy w o := ⟨rfl, rfl, rfl, Nat.le_refl _, fun _ _ _ => rfl⟩
theorem gb_below {w W W1 : World} {o : Option Nat} (h : w.grownBy W o) (hb : Below w.heap.size W W1) : w.grownBy W1 o := ⟨hb.os.trans h.os, hb.tape.trans h.tape, hb.output.trans h.output, Nat.le_trans h.size hb.size, fun i hi hne => (hb.block i hi).trans (h.block i hi hne)⟩
theorem rowZ_aside {W W1 : World} {base base' n' : Nat} {mv v : Value} {zs : List Zz} {l : List Cl} {T : TypeId} (h : RowZ W base mv zs) (ho : OwnG T n' encC W base' v l) (hg : W.grownBy W1 v.ownBlock) (hT : T ≠ 56 := by decide) : RowZ W1 base mv zs := OwnG.aside h (fun M cs fr e h0 => by
  obtain ⟨cs', fr', h1⟩ := ho.kind M e
  rw [h0] at h1
  injection h1 with h1
  injection h1 with _ h1
  exact hT h1.symm) hg
/-- Between two rounds. -/
structure DuR (w : World) (base : Nat) (tk : Int) (zs : List Zz) (mv : Value) (k : Nat) (v : Value) (W : World) : Prop where
  row : RowZ W base mv (duZ tk zs k)
  out : OwnG 24 4 encC W w.heap.size v (dueCs tk (zs.take k))
  kt : w.grownBy W mv.ownBlock
set_option maxRecDepth 100000 in
set_option maxHeartbeats 4000000 in
theorem rdue_any (base : Nat) (mv : Value) (zs : List Zz) (tk : Int) (w : World) (h : RowZ w base mv zs) (hl : zs.length ≤ 100) (ht : 0 ≤ tk ∧ tk ≤ 1073741824) (ha : ∀ z ∈ zs, 0 ≤ z.ask ∧ z.ask ≤ 1073741824) :
    Calls Try.prog 12 #[mv, .int .i64 tk] w fun e w' => ∃ v, e = .returned v ∧ OwnG 24 4 encC w' w.heap.size v (dueCs tk zs) ∧ RowZ w' base mv (zs.map (updZ tk)) ∧ w.grownBy w' mv.ownBlock := by
  obtain ⟨a, cap, rfl, -, -⟩ := OwnG.form h
  obtain ⟨n, hns⟩ : ∃ n, zs.length = n := ⟨_, rfl⟩
  have HN := Bx.mk hns
  have HA := Bx.mk ha
  have HT := Bx.mk ht
  have H0 : Bx (DuR w base tk zs (.slice a zs.length cap) 0 (.slice none 0 0) w) := Bx.mk ⟨by unfold duZ; simpa using h, by simpa [dueCs] using OwnG.nil 24 4 encC w w.heap.size, gb_refl _ _⟩
  rw [hns] at hl H0 ⊢
  clear h hns ha ht
  go_enter Try.func12, Try.ntmps12
  go_wp2
  go_loopw [5, 6] (fun v j wr => ∃ (k : Nat) (o1 : Option Addr) (o2 o3 : Nat), k ≤ n ∧ j = .int .i64 (k : Int) ∧ v = .slice o1 o2 o3 ∧ Bx (DuR w base tk zs (.slice a n cap) k (.slice o1 o2 o3) wr)) (fun _ j _ => n - (intOf j).toNat)
  case atStart => exact ⟨0, none, 0, 0, Nat.zero_le _, rfl, rfl, H0⟩
  case round =>
    clear H0
    obtain ⟨k, o1, o2, o3, hk, rfl, rfl, HI⟩ := hrel
    by_cases hlt : k < n
    · have hk1 : (k : Int) < (n : Int) := by omega
      have hk0 : (0 : Int) ≤ (k : Int) := by omega
      have hkz : k < zs.length := by rw [HN.out]; exact hlt
      have hkd : k < (duZ tk zs k).length := by rw [duZ_len tk zs k (by omega)]; exact hkz
      obtain ⟨g, cap2, hv⟩ := OwnG.start HI.out.row (by omega)
      injection hv with hv1 hv2 hv3
      subst hv1
      have hg := OwnG.at_ HI.out.row encZ_len k hkd
      rw [duZ_at tk zs k hkz] at hg
      obtain ⟨q4, q5, -, -⟩ := rngZ hg
      obtain ⟨g0, g1, g2, g3⟩ := rng4 (rngZ4 hg)
      have HS := Bx.mk (And.intro (duZ_succ tk zs k hkz) (dueCs_snoc tk zs k hkz))
      have HAk := Bx.mk (HA.out _ (List.getElem_mem hkz))
      have HLen : Bx ((dueCs tk (zs.take k)).length ≤ 1000) := Bx.mk (Nat.le_trans (dueCs_len tk _) (by rw [List.length_take]; omega))
      have HKd := Bx.mk (And.intro hkd (duZ_at tk zs k hkz))
      generalize hz : zs[k] = z at *
      have HD : Bx (z.e.k.isSome = true → dueZ tk z = false) := Bx.mk (fun h => by simp [dueZ, h])
      have HDn : Bx (z.e.k.isSome = false → dueZ tk z = decide (8 ≤ tk - z.ask)) := Bx.mk (fun h => by simp [dueZ, h])
      clear hg hv2 hv3
      obtain ⟨kb, hkb⟩ : ∃ kb, z.e.k.isSome = kb := ⟨_, rfl⟩
      rw [hkb] at q4 HD HDn
      have hid : dueZ tk z = false → DuR w base tk zs (.slice (some ⟨g, 0, none⟩) n cap) (k + 1) (.slice o1 o2 o3) wr := fun h => ⟨by
        have h1 := HI.out.row
        have h2 : updZ tk z = z := by simp [updZ, h]
        rw [HS.out.1, h2]
        have h3 : (duZ tk zs k).set k z = duZ tk zs k := by rw [← hz, ← duZ_at tk zs k hkz]; exact List.set_getElem_self hkd
        rw [h3]
        exact h1, by
        rw [HS.out.2, h]
        simpa using HI.out.out, HI.out.kt⟩
      have Hid := Bx.mk hid
      clear hid
      cases kb with
      | true =>
        have R1 := Bx.mk (Hid.out (HD.out rfl))
        clear HI Hid HD HDn HS g0 g1 g2 g3 HAk hkz hkd hz hkb HKd
        go_wp2
        go_roundw
        case rel => exact ⟨k + 1, _, _, _, by omega, by go_num, rfl, R1⟩
        case measure => simp [intOf]; omega
      | false =>
        have hw : IntKind.i64.wrap (tk - z.ask) = tk - z.ask := by have := HAk.out; have := HT.out; simp [IntKind.wrap_i64]; omega
        by_cases h8 : 8 ≤ tk - z.ask
        · have HDt : Bx (dueZ tk z = true) := Bx.mk (by rw [HDn.out rfl, decide_eq_true h8])
          have HSt : Bx (∀ W, w.grownBy W (some g) → RowZ W base (.slice (some ⟨g, 0, none⟩) n cap) (duZ tk zs k) → (∀ v, OwnG 24 4 encC W w.heap.size v (dueCs tk (zs.take k) ++ [z.e.c]) → DuR w base tk zs (.slice (some ⟨g, 0, none⟩) n cap) (k + 1) v (W.setCell ⟨g, k * 8 + 5, none⟩ (.int .i64 tk)))) := Bx.mk fun W hkt hrow v ho => by
            have g1 : W.grownBy (W.setCell ⟨g, k * 8 + 5, none⟩ (.int .i64 tk)) (some g) := kb_setCell _ _ _
            have hk2 := KT.by_ g1 (RowZ.row hrow)
            have hh := OwnG.set hrow encZ_len k hkd 5 (by omega) (.int .i64 tk) (updZ tk z) (by rw [HKd.out.2]; simp [updZ, HDt.out, encZ])
            refine ⟨by rw [HS.out.1]; exact hh, ?_, kb_trans hkt g1⟩
            rw [HS.out.2, HDt.out]
            exact ho.kept fun gg cs fr _ h0 => hk2.block gg _ h0 (fun _ _ => ne_cells (by decide))
          have R0 : Bx (OwnG 24 4 encC wr w.heap.size (.slice o1 o2 o3) (dueCs tk (zs.take k)) ∧ RowZ wr base (.slice (some ⟨g, 0, none⟩) n cap) (duZ tk zs k) ∧ w.heap.size ≤ wr.heap.size ∧ w.grownBy wr (some g)) := Bx.mk ⟨HI.out.out, HI.out.row, HI.out.kt.size, HI.out.kt⟩
          clear HI Hid HD HDn HS HAk hz hkb
          obtain ⟨⟨⟨zi, zr, zx, zq⟩, zp, zs', zk', za⟩, zkv, ztv, zns, zask⟩ := z
          simp only at g0 g1 g2 g3 q5 hw h8 HSt
          have R1 : Bx (OwnG 24 4 encC (wr.alloc (.cells #[.int .i64 zi, .int .i64 zr, .int .i64 zx, .int .i64 zq] 24)) w.heap.size (.slice o1 o2 o3) (dueCs tk (zs.take k)) ∧ RowZ (wr.alloc (.cells #[.int .i64 zi, .int .i64 zr, .int .i64 zx, .int .i64 zq] 24)) base (.slice (some ⟨g, 0, none⟩) n cap) (duZ tk zs k) ∧ w.grownBy (wr.alloc (.cells #[.int .i64 zi, .int .i64 zr, .int .i64 zx, .int .i64 zq] 24)) (some g)) := Bx.mk ⟨R0.out.1.later (below_a _), OwnG.later R0.out.2.1 (below_a _), kb_trans R0.out.2.2.2 (kb_below _ (below_a _))⟩
          have HKl : Bx (k < (duZ tk zs k).length) := Bx.mk hkd
          go_wp2_with (refine wpList_apG (T := 24) (n := 4) (enc := encC) elRc rfl _ _ rfl w.heap.size (.slice o1 o2 o3) (dueCs tk (zs.take k)) (by rfl) R1.out.1 wr.heap.size 0 ⟨zi, zr, zx, zq⟩ 1 (by rfl) (box_rng wr ⟨zi, zr, zx, zq⟩ 24) (encC_len _) (encC_one _) HLen.out (by have := R0.out.2.2.1; rw [World.size_alloc]; omega) ?_; intro v5 w5 ho5 hg5; have R5 : Bx (OwnG 24 4 encC w5 w.heap.size v5 (dueCs tk (zs.take k) ++ [⟨zi, zr, zx, zq⟩]) ∧ RowZ w5 base (.slice (some ⟨g, 0, none⟩) n cap) (duZ tk zs k) ∧ w.grownBy w5 (some g)) := Bx.mk ⟨ho5, rowZ_aside R1.out.2.1 R1.out.1 hg5, gb_below R1.out.2.2 (OwnG.below R1.out.1 hg5 (by have := R0.out.2.2.1; rw [World.size_alloc]; omega))⟩; have hq5 := rngZ (OwnG.at_ R5.out.2.1 encZ_len k HKl.out); rw [HKd.out.2] at hq5; obtain ⟨-, p5, -, -⟩ := hq5; have f5 := OwnG.frozen R5.out.2.1 (k * 8 + 5); obtain ⟨sa, sc, hs, -, -⟩ := OwnG.form ho5; obtain ⟨sn, hsn⟩ : ∃ sn, (dueCs tk (zs.take k) ++ [(⟨zi, zr, zx, zq⟩ : Cl)]).length = sn := ⟨_, rfl⟩; rw [hsn] at hs; subst hs; clear ho5 hg5 q5 g0 g1 g2 g3 R0 R1 hsn)
          have R6 := Bx.mk (HSt.out w5 R5.out.2.2 R5.out.2.1 _ R5.out.1)
          go_roundw
          case rel => exact ⟨k + 1, _, _, _, by omega, by go_num, rfl, R6⟩
          case measure => simp [intOf]; omega
        · have R1 := Bx.mk (Hid.out (by rw [HDn.out rfl, decide_eq_false h8]))
          clear HI Hid HD HDn HS g0 g1 g2 g3 HAk hkz hkd hz hkb HKd
          go_wp2
          go_roundw
          case rel => exact ⟨k + 1, _, _, _, by omega, by go_num, rfl, R1⟩
          case measure => simp [intOf]; omega
    · have ek : k = n := by omega
      have HF : Bx (OwnG 24 4 encC wr w.heap.size (.slice o1 o2 o3) (dueCs tk zs) ∧ RowZ wr base (.slice a n cap) (zs.map (updZ tk)) ∧ w.grownBy wr (Value.slice a n cap).ownBlock) := Bx.mk (by
        have h1 := HI.out.row
        have h2 := HI.out.out
        unfold duZ at h1
        rw [ek, ← HN.out, List.take_length, List.drop_length, List.append_nil] at h1
        rw [ek, ← HN.out, List.take_length] at h2
        rw [HN.out] at h1
        exact ⟨h2, h1, HI.out.kt⟩)
      have hlt' : ¬ (k : Int) < (n : Int) := by omega
      clear ek HI
      go_wp2
      go_ret
      exact ⟨_, rfl, HF.out⟩
end Go.Proofs.Ytdbdpehagkglfaa
