/-
  Bakers: Check.
-/
import Derived.Test.YtncbhnkhbohejaaDoorX5
import Derived.Deep.QuietTactic
import Derived.Lib.SlBytesConst
import Derived.BigQuiet
import Derived.Deep.RegionHeld3
namespace Go.Proofs.YtncbhnkhbohejaaDoor
open Go Go.RowKit
set_option maxRecDepth 100000 in
theorem check_err (p : Value) (hpv : ∃ o, p = .pointer o) (x y er : Int) (her : er = 10 ∨ er = 11) (vc vp : Value) (w : World) (HRf : Calls Tryd.prog 22 #[p, .int .i64 x, .int .i64 y] w fun e w' => e = .returned (.int .i64 er) ∧ w = w') :
    Calls Tryd.prog 12 #[p, vc, .int .i64 x, .int .i64 y, vp] w fun e w' => e = .returned (.int .i64 er) ∧ w = w' := by
  have HR := Bx.mk HRf
  have hne : ¬ er = 0 := by omega
  clear HRf her
  obtain ⟨o, rfl⟩ := hpv
  go_enter Tryd.func12, Tryd.ntmps12
  go_wp2_with fail
  refine HR.out.mono ?_
  rintro e w1 ⟨rfl, rfl⟩
  go_wp2
  go_ret
  exact ⟨rfl, rfl⟩
theorem check_bad (p k : Nat) (x y : Int) (vc vp : Value) (w : World) (hc : w.cell? ⟨p, 2, none⟩ = some (.pointer (some ⟨k, 0, none⟩))) (h : rightQ x y = false) : Calls Tryd.prog 12 #[.pointer (some ⟨p, 0, none⟩), vc, .int .i64 x, .int .i64 y, vp] w fun e w' => e = .returned (.int .i64 10) ∧ w = w' :=
  check_err _ ⟨_, rfl⟩ x y 10 (.inl rfl) vc vp w (ref_bad p k x y w hc h)
set_option maxRecDepth 100000 in
theorem check_ok (p k t a : Nat) (bs c : List UInt8) (pss : List (List UInt8)) (vc vp : Value) (w : World) (hvc : Bytes w vc c) (hl : c.length = 16) (hc : w.cell? ⟨p, 2, none⟩ = some (.pointer (some ⟨k, 0, none⟩))) (hv : IsKey w (.pointer (some ⟨k, 0, none⟩)) bs) (hp : PartsR w vp pss) (hr : rightQ (a : Int) (t : Int) = true)
    (hk : bs.length ≤ 1000000) (hpn : pss.length ≤ 900) (hpl : ∀ p ∈ pss, p.length ≤ 10000) (hTab : Tab w) (hg : 0 < w.heap.size) (hf : freK bs (t / 64) a pss c = true) :
    Calls Tryd.prog 12 #[.pointer (some ⟨p, 0, none⟩), vc, .int .i64 (a : Int), .int .i64 (t : Int), vp] w fun e w' => e = .returned (.int .i64 0) ∧ Below w.heap.size w w' := by
  obtain ⟨ha1, ha2, ht1, ht2⟩ : (0 ≤ (a : Int) ∧ (a : Int) < 65536 ∧ 0 ≤ (t : Int) ∧ (t : Int) ≤ 1073741824) := of_decide_eq_true hr
  have HR := Bx.mk (ref_ok p k a t w hc hr)
  have HF := Bx.mk (fresh_any bs c a k p t pss vp vc w hc hv hp hvc hk hpn hpl (by omega) (by omega) (by omega) hTab hg)
  rw [hf] at HF
  have hvc' := hvc
  obtain ⟨aa, cap, rfl, -⟩ := hvc'
  rw [hl] at HF ⊢
  clear hl hvc hc hv hp hr hk hpn hpl hTab hg hf
  go_enter Tryd.func12, Tryd.ntmps12
  go_wp2_with fail
  refine HR.out.mono ?_
  rintro e w1 ⟨rfl, rfl⟩
  go_wp2_with fail
  refine HF.out.mono ?_
  rintro e w1 ⟨rfl, hb⟩
  have HB := Bx.mk hb
  clear hb
  go_wp2
  go_ret
  exact ⟨rfl, HB.out⟩
set_option maxRecDepth 100000 in
theorem check_old (p t a n m : Nat) (bs c : List UInt8) (pss : List (List UInt8)) (vc vp : Value) (w : World) (hvc : Bytes w vc c) (hl : c.length = 16) (h : Bk w p p n m bs) (hp : PartsR w vp pss) (hr : rightQ (a : Int) (t : Int) = true) (hm : m ≤ 1000000)
    (hk : bs.length ≤ 1000000) (hpn : pss.length ≤ 900) (hpl : ∀ p ∈ pss, p.length ≤ 10000) (hTab : Tab w) (hg : 0 < w.heap.size) (hf : freK bs (t / 64) a pss c = false) :
    Calls Tryd.prog 12 #[.pointer (some ⟨p, 0, none⟩), vc, .int .i64 (a : Int), .int .i64 (t : Int), vp] w fun e w' => e = .returned (.int .i64 9) ∧ Bk w' p p n (m + 1) bs ∧ w.grownBy w' (some p) := by
  obtain ⟨ha1, ha2, ht1, ht2⟩ : (0 ≤ (a : Int) ∧ (a : Int) < 65536 ∧ 0 ≤ (t : Int) ∧ (t : Int) ≤ 1073741824) := of_decide_eq_true hr
  obtain ⟨k, -, -, hc, -, hv⟩ := h.parts
  have HR := Bx.mk (ref_ok p k a t w hc hr)
  have HF := Bx.mk (fresh_any bs c a k p t pss vp vc w hc hv hp hvc hk hpn hpl (by omega) (by omega) (by omega) hTab hg)
  rw [hf] at HF
  have hvc' := hvc
  obtain ⟨aa, cap, rfl, -⟩ := hvc'
  rw [hl] at HF ⊢
  have HK := Bx.mk h
  clear hl hvc hc hv hp hr hk hpn hpl hTab hg hf h
  go_enter Tryd.func12, Tryd.ntmps12
  go_wp2_with fail
  refine HR.out.mono ?_
  rintro e w1 ⟨rfl, rfl⟩
  go_wp2_with fail
  refine HF.out.mono ?_
  rintro e w1 ⟨rfl, hb⟩
  have HB := Bx.mk (And.intro hb (HK.out.later hb))
  clear hb
  obtain ⟨k1, -, d1, -, hz1, -⟩ := HB.out.2.parts
  have HA := Bx.mk (add_base p 1 m w1 d1 (hz1 1) hm)
  clear d1 hz1
  go_wp2_with fail
  refine HA.out.mono ?_
  rintro e w2 ⟨rfl, hw2⟩
  have H2 : Bx (Bk w2 p p n (m + 1) bs ∧ w.grownBy w2 (some p)) := Bx.mk ⟨by rw [hw2]; exact HB.out.2.find, kb_trans (kb_below _ HB.out.1) (by rw [hw2]; exact kb_set1 _ _ _ _)⟩
  clear hw2
  go_wp2
  go_ret
  exact ⟨rfl, H2.out⟩
end Go.Proofs.YtncbhnkhbohejaaDoor
namespace Go.Proofs.YtncbhnkhbohejaaDoor
open Go Go.RowKit
def zk16 : List UInt8 := List.replicate 16 0
theorem ck21 : cookK zk16 2 5 [] ≠ cookK zk16 1 5 [] := by decide +kernel
theorem ck31 : cookK zk16 3 5 [] ≠ cookK zk16 1 5 [] := by decide +kernel
end Go.Proofs.YtncbhnkhbohejaaDoor
namespace Go.Proofs.YtncbhnkhbohejaaDoor
open Go Go.RowKit
theorem noParts (W : World) : PartsR W (.slice none 0 0) [] := ⟨[], .inl ⟨rfl, rfl⟩, rfl, fun j hj => by simp at hj⟩
theorem fre191 : freK zk16 (191 / 64) 5 [] (cookK zk16 (70 / 64) 5 []) = true := by
  unfold freK
  rw [show (191 / 64 - 1 : Nat) = 70 / 64 from rfl]
  simp
theorem fre192 : freK zk16 (192 / 64) 5 [] (cookK zk16 (70 / 64) 5 []) = false := by
  unfold freK
  rw [show (192 / 64 : Nat) = 3 from rfl, show (70 / 64 : Nat) = 1 from rfl, decide_eq_false ck31, decide_eq_false (show ¬ cookK zk16 (3 - 1) 5 [] = cookK zk16 1 5 [] from ck21)]
  rfl
set_option maxRecDepth 100000 in
set_option maxHeartbeats 1000000 in
theorem known10_any (w : World) (hTab : Tab w) (hg : 0 < w.heap.size) : Calls Tryd.prog 11 #[] w fun e w' => e = .returned (.bool true) ∧ Below w.heap.size w w' := by
  obtain ⟨z16, hz16⟩ : ∃ z, u8s (List.replicate 16 0) = z := ⟨_, rfl⟩
  have hz16v := (z16_facts hz16).1
  have HN := Bx.mk fun (W : World) (v : Value) (hv : Bytes W v zk16) => cnew_ok zk16 v W hv (by decide) (by decide)
  have HBa : Bx (∀ (W : World) (p : Nat), Below w.heap.size w W → Bk W p p 0 0 zk16 → Calls Tryd.prog 9 #[.pointer (some ⟨p, 0, none⟩), .int .i64 5, .int .i64 70, .slice none 0 0] W fun e w' => e = .returned (.tuple #[.agg (u8s (cookK zk16 (70 / 64) 5 [])), .int .i64 0]) ∧ Bk w' p p 1 0 zk16 ∧ W.grownBy w' (some p)) :=
    Bx.mk fun W p hb hk => bake_ok zk16 5 70 p 0 0 [] _ W hk (fun W _ => noParts W) (by decide) (by decide) (by decide) (by decide) (by simp) (hTab.later hb hg) (Nat.lt_of_lt_of_le hg hb.size)
  have HC1 : Bx (∀ (W : World) (p : Nat) (vc : Value), Below w.heap.size w W → Bk W p p 1 0 zk16 → Bytes W vc (cookK zk16 (70 / 64) 5 []) → Calls Tryd.prog 12 #[.pointer (some ⟨p, 0, none⟩), vc, .int .i64 5, .int .i64 191, .slice none 0 0] W fun e w' => e = .returned (.int .i64 0) ∧ Below W.heap.size W w') :=
    Bx.mk fun W p vc hb hk hv => by
      obtain ⟨k, -, -, hc, -, hkey⟩ := hk.parts
      exact check_ok p k 191 5 zk16 _ [] vc _ W hv (cookK_length _ _ _ _) hc hkey (noParts W) (by decide) (by decide) (by decide) (by simp) (hTab.later hb hg) (Nat.lt_of_lt_of_le hg hb.size) fre191
  have HC2 : Bx (∀ (W : World) (p : Nat) (vc : Value), Below w.heap.size w W → Bk W p p 1 0 zk16 → Bytes W vc (cookK zk16 (70 / 64) 5 []) → Calls Tryd.prog 12 #[.pointer (some ⟨p, 0, none⟩), vc, .int .i64 5, .int .i64 192, .slice none 0 0] W fun e w' => e = .returned (.int .i64 9) ∧ Bk w' p p 1 1 zk16 ∧ W.grownBy w' (some p)) :=
    Bx.mk fun W p vc hb hk hv => check_old p 192 5 1 0 zk16 _ [] vc _ W hv (cookK_length _ _ _ _) hk (noParts W) (by decide) (by decide) (by decide) (by decide) (by simp) (hTab.later hb hg) (Nat.lt_of_lt_of_le hg hb.size) fre192
  have HL := cookK_length zk16 (70 / 64) 5 []
  generalize cookK zk16 (70 / 64) 5 [] = ck at *
  have HI : Bx ((Tryd.prog.info? 28).map (·.size) = some (u8s ck).size ∧ (u8s ck).size = z16.size ∧ ck.length = 16) := Bx.mk (by
    have h16 : (u8s ck).size = 16 := by rw [u8s_size, HL]
    refine ⟨by rw [h16]; kernel_rfl, by rw [h16, ← hz16]; rfl, HL⟩)
  obtain ⟨cs, hcs⟩ : ∃ cs, u8s (List.replicate 16 0) = cs := ⟨_, rfl⟩
  have mk1 := fun (W : World) => mk_u8g 16 16 .i64 .i64 16 16 rfl rfl (Nat.le_refl _) (by omega) W
  rw [hcs] at mk1
  obtain ⟨B, hB⟩ : ∃ B, w.heap.size = B := ⟨_, rfl⟩
  have H0 : Bx (Bytes (w.alloc (.cells cs 5)) (.slice (some ⟨w.heap.size, 0, none⟩) 16 16) zk16 ∧ Below w.heap.size w (w.alloc (.cells cs 5))) := Bx.mk ⟨by rw [← hcs]; exact built w zk16, below_a _⟩
  rw [hB] at H0
  have HBw := Bx.mk hB
  clear hTab hg hz16 HL hcs
  rw [hB]
  go_enter Tryd.func11, Tryd.ntmps11
  go_wp2_with fail
  skip -- M1
  generalize w.alloc (.cells cs 5) = w1 at *
  refine (HN.out w1 _ H0.out.1).mono ?_
  rintro e w2 ⟨p, rfl, hp, hb, hk⟩
  have H2 : Bx (Below B w w2 ∧ Bk w2 p p 0 0 zk16 ∧ B ≤ p) := Bx.mk ⟨H0.out.2.trans (hb.mono (by rw [← HBw.out]; exact H0.out.2.size)), hk p (.inr (Nat.le_refl _)), by have := H0.out.2.size; have := HBw.out; omega⟩
  clear hp hb hk HN H0 mk1
  go_wp2_with fail
  refine (HBa.out w2 p (by rw [HBw.out]; exact H2.out.1) H2.out.2.1).mono ?_
  rintro e w3 ⟨rfl, hk, hg⟩
  have H3 : Bx (Below B w w3 ∧ Bk w3 p p 1 0 zk16 ∧ B ≤ p) := Bx.mk ⟨H2.out.1.trans (grown_belowC hg H2.out.2.2 (by rw [← HBw.out]; exact H2.out.1.size)), hk, H2.out.2.2⟩
  clear hk hg HBa H2
  go_upto_region 3 with (refine wpList_store_var rfl 28 _ _ rfl w3 _ _ rfl (by rfl) (u8s ck) (by rfl) HI.out.2.1 HI.out.1 (one_u8s _) ?_; intro w4 hb hr hl)
  have H4 : Bx (Below B w w4 ∧ Bk w4 p p 1 0 zk16 ∧ B ≤ p ∧ Bytes w4 (.slice (some ⟨w3.heap.size, 0, none⟩) 16 16) ck) := Bx.mk ⟨H3.out.1.trans (hb.mono (by rw [← HBw.out]; exact H3.out.1.size)), H3.out.2.1.later hb, H3.out.2.2, row_bytes hr HI.out.2.2⟩
  clear hb hr hl H3
  go_wp2_with fail
  skip -- M2
  refine (HC1.out w4 p _ (by rw [HBw.out]; exact H4.out.1) H4.out.2.1 H4.out.2.2.2).mono ?_
  rintro e w5 ⟨rfl, hb⟩
  have H5 : Bx (Below B w w5 ∧ Bk w5 p p 1 0 zk16 ∧ B ≤ p ∧ Bytes w5 (.slice (some ⟨w3.heap.size, 0, none⟩) 16 16) ck) := Bx.mk ⟨H4.out.1.trans (hb.mono (by rw [← HBw.out]; exact H4.out.1.size)), H4.out.2.1.later hb, H4.out.2.2.1, H4.out.2.2.2.later hb⟩
  clear hb H4 HC1
  go_wp2_with fail
  refine (HC2.out w5 p _ (by rw [HBw.out]; exact H5.out.1) H5.out.2.1 H5.out.2.2.2).mono ?_
  rintro e w6 ⟨rfl, hk, hg⟩
  have H6 : Bx (Below B w w6) := Bx.mk (H5.out.1.trans (grown_belowC hg H5.out.2.2.1 (by rw [← HBw.out]; exact H5.out.1.size)))
  clear hk hg H5 HC2
  go_wp2
  go_ret
  exact ⟨rfl, H6.out⟩
end Go.Proofs.YtncbhnkhbohejaaDoor
namespace Go.Proofs.YtncbhnkhbohejaaDoor
open Go Go.RowKit
/-- The key's end. -/
def hex16 : List UInt8 := [48, 49, 50, 51, 52, 53, 54, 55, 56, 57, 97, 98, 99, 100, 101, 102]
/-- The law's key. -/
def keyQ (bs : List UInt8) : List UInt8 := bs.take 54 ++ hex16
theorem keyQ_le (bs : List UInt8) : (keyQ bs).length ≤ 70 ∧ 16 ≤ (keyQ bs).length := by
  unfold keyQ
  rw [List.length_append, List.length_take]
  have : hex16.length = 16 := rfl
  omega
set_option maxRecDepth 100000 in
set_option maxHeartbeats 1000000 in
theorem key10_any (bs : List UInt8) (v : Value) (w : World) (hv : Bytes w v bs) (hl : bs.length ≤ 9223372036854775807) :
    Calls Tryd.prog 21 #[v] w fun e w' => ∃ v', e = .returned v' ∧ Bytes w' v' (keyQ bs) ∧ Below w.heap.size w w' := by
  have HV := Bx.mk hv
  obtain ⟨a, cap, rfl, hc, hnone, -⟩ := hv
  obtain ⟨n, hn⟩ : ∃ n, bs.length = n := ⟨_, rfl⟩
  rw [hn] at HV hl hc ⊢
  obtain ⟨mm, hmm⟩ : ∃ mm, mm = min n 54 := ⟨_, rfl⟩
  have m1 : (if (54 : Int) < (n : Int) then (54 : Int) else (n : Int)) = (mm : Int) := by split <;> omega
  have s1 := fun W => cut_bytes a n cap mm (by omega) (by omega) hnone W
  have hmc : (mm : Int) ≤ (cap : Int) := by omega
  have hn1 : (n : Int) ≤ 9223372036854775807 := by omega
  have HM : Bx (mm ≤ 54 ∧ (bs.take mm).length = mm) := Bx.mk ⟨by omega, by rw [List.length_take]; omega⟩
  have HT : Bx (bs.take mm = bs.take 54) := Bx.mk (by rw [hmm, ← hn, Nat.min_comm, ← List.take_take, List.take_length])
  have HB : Bx (∀ W, Bytes W (.slice a n cap) bs → Bytes W (.slice a mm cap) (bs.take mm)) := Bx.mk (fun W hW => hW.take mm (by omega))
  have H0 : Bx (OwnB (w.alloc (.cells #[] 5)) w.heap.size (.slice (some ⟨w.heap.size, 0, none⟩) 0 0) [] ∧ Below w.heap.size w (w.alloc (.cells #[] 5)) ∧ Bytes (w.alloc (.cells #[] 5)) (.slice a mm cap) (bs.take mm)) := Bx.mk ⟨own_empty w _ (Nat.le_refl _), below_a _, HB.out _ (HV.out.later (below_a _))⟩
  have HBu : Bx (∀ W : World, Bytes (W.alloc (.cells #[.int .u8 48, .int .u8 49, .int .u8 50, .int .u8 51, .int .u8 52, .int .u8 53, .int .u8 54, .int .u8 55, .int .u8 56, .int .u8 57, .int .u8 97, .int .u8 98, .int .u8 99, .int .u8 100, .int .u8 101, .int .u8 102] 5 (16, 17))) (.slice (some ⟨W.heap.size, 0, none⟩) 16 16) hex16) := Bx.mk fun W => const_bytes (l := hex16) (fr := (16, 17)) (by rw [hnew _ _ _ rfl]; kernel_rfl) rfl
  have kc := fun (W : World) => Lib.run_convert_bytes_const (P := Tryd.prog) W 22 5 #[.int .u8 48, .int .u8 49, .int .u8 50, .int .u8 51, .int .u8 52, .int .u8 53, .int .u8 54, .int .u8 55, .int .u8 56, .int .u8 57, .int .u8 97, .int .u8 98, .int .u8 99, .int .u8 100, .int .u8 101, .int .u8 102] 16 16 Tryd.underlying22 Tryd.underlying5
  clear hmm hn hnone hc HV HB
  go_enter Tryd.func21, Tryd.ntmps21
  go_wp2_with (first | (refine wpList_ap (o := ⟨some 9, _, _, _, _, _⟩) rfl _ _ rfl w.heap.size _ [] (by rfl) H0.out.1 _ (bs.take mm) (by rfl) H0.out.2.2 (by have := HM.out; simp only [List.length_nil]; omega) H0.out.2.1.size ?_; intro v1 w1 h1 g1 _; have H1 : Bx (OwnB w1 w.heap.size v1 ([] ++ bs.take mm) ∧ Below w.heap.size w w1) := Bx.mk ⟨h1, H0.out.2.1.trans (own_below H0.out.1 g1 H0.out.2.1.size)⟩; clear h1 g1; have kc2 := kc w1; clear kc) | (refine wpList_ap (o := ⟨some 12, _, _, _, _, _⟩) rfl _ _ rfl w.heap.size _ ([] ++ bs.take mm) (by rfl) (ownB_a H1.out.1 _) _ hex16 (by rfl) (HBu.out w1) (by have := HM.out; rw [List.nil_append, HM.out.2, show hex16.length = 16 from rfl]; omega) (Nat.le_trans H1.out.2.size (below_a _).size) ?_; intro v2 w2 h1 g1 _; have H2 : Bx (OwnB w2 w.heap.size v2 (([] ++ bs.take mm) ++ hex16) ∧ Below w.heap.size w w2) := Bx.mk ⟨h1, (H1.out.2.alloc H1.out.2.size _).trans (own_below (ownB_a H1.out.1 _) g1 (Nat.le_trans H1.out.2.size (below_a _).size))⟩; clear h1 g1))
  go_ret
  exact ⟨_, rfl, by have := H2.out.1.bytes; rw [List.nil_append, HT.out] at this; exact this, H2.out.2⟩
end Go.Proofs.YtncbhnkhbohejaaDoor
namespace Go.Proofs.YtncbhnkhbohejaaDoor
open Go Go.RowKit
/-- At most three parts, of at most 40 bytes. -/
def cut3Q (pss : List (List UInt8)) : List (List UInt8) := (pss.take 3).map (·.take 40)
theorem cut3Q_len (pss : List (List UInt8)) : (cut3Q pss).length ≤ 3 := by
  unfold cut3Q
  rw [List.length_map, List.length_take]
  omega
theorem cut3Q_each (pss : List (List UInt8)) : ∀ p ∈ cut3Q pss, p.length ≤ 40 := by
  intro p hp
  unfold cut3Q at hp
  obtain ⟨q, _, rfl⟩ := List.mem_map.1 hp
  simp only [List.length_take]
  omega
theorem few10_succ (pss : List (List UInt8)) (k : Nat) (h : k < pss.length) : (pss.take (k + 1)).map (·.take 40) = (pss.take k).map (·.take 40) ++ [(pss.getD k []).take 40] := by
  rw [List.take_succ_eq_append_getElem h, List.map_append]
  simp [h]
theorem row_oneP (W : World) (x : Value) : RowP (W.alloc (.cells #[x] 22)) (.slice (some ⟨W.heap.size, 0, none⟩) 1 1) [x] := by
  refine .inr ⟨W.heap.size, 0, 1, rfl, fun j hj => ?_⟩
  rw [cell_of_row _ _ _ _ _ _ (hnew W _ _ rfl)]
  obtain rfl : j = 0 := by simpa using hj
  rfl
/-- What few hands back. -/
def Few10 (w0 w : World) (pss : List (List UInt8)) (e : Ending) (w' : World) : Prop := ∃ vo xs, e = .returned vo ∧ Vals w0 xs (cut3Q pss) ∧ OwnP w' w.heap.size vo xs ∧ Below w.heap.size w w'
def Few10Rel (w0 w : World) (pss : List (List UInt8)) (o i : Value) (wr : World) : Prop :=
  ∃ k xs, k ≤ pss.length ∧ k ≤ 3 ∧ i = .int .i64 ((k : Nat) : Int) ∧ Vals w0 xs ((pss.take k).map (·.take 40)) ∧ OwnP wr w.heap.size o xs ∧ Below w.heap.size w wr
set_option maxRecDepth 100000 in
set_option maxHeartbeats 1000000 in
theorem few10_any (pss : List (List UInt8)) (v : Value) (w0 w : World) (h0 : Below w0.heap.size w0 w) (hv : Parts w0 v pss) (hn : pss.length ≤ 9223372036854775807) (hp : ∀ p ∈ pss, p.length ≤ 9223372036854775807) :
    Calls Tryd.prog 8 #[v] w (Few10 w0 w pss) := by
  have HV := Bx.mk hv
  have HP := Bx.mk hp
  have HW0 : Bx (∀ W, Below w.heap.size w W → Below w0.heap.size w0 W) := Bx.mk (fun W h => h0.trans (h.mono h0.size))
  clear h0
  obtain ⟨a, cap, rfl, -⟩ := hv
  obtain ⟨n, hnn⟩ : ∃ n, pss.length = n := ⟨_, rfl⟩
  have HN := Bx.mk hnn
  rw [hnn] at HV hn ⊢
  clear hnn hp
  have hn1 : (n : Int) ≤ 9223372036854775807 := by omega
  go_enter Tryd.func8, Tryd.ntmps8
  go_wp2
  go_loopw [3, 4] (fun o i wr => Few10Rel w0 w pss o i wr) (fun _ i _ => 4 - (intOf i).toNat)
  case atStart => exact ⟨0, [], by omega, by omega, rfl, ⟨rfl, fun j hj => by simp at hj⟩, ⟨rfl, .inl ⟨rfl, rfl⟩⟩, Below.refl _ _⟩
  case round =>
    obtain ⟨k, xs, hk, hk8, rfl, hvals, hop, hbel⟩ := hrel
    have hkn : k ≤ n := by have := HN.out; omega
    have HA := Bx.mk (And.intro hvals (And.intro hop hbel))
    obtain ⟨oa, on, oc, rfl⟩ := ownP_shape hop
    clear hvals hop hbel hk
    by_cases hlt : k < n ∧ k < 3
    · obtain ⟨hkn', hk8'⟩ := hlt
      have t1 : (k : Int) < (n : Int) := by omega
      have t2 : (k : Int) < 3 := by omega
      obtain ⟨a', cap', hv', hr'⟩ := HV.out
      injection hv' with e1 e2 e3
      obtain ⟨p, o, ha, hcell⟩ := hr' (by omega)
      subst e1
      subst ha
      obtain ⟨x, hx, hxb⟩ := hcell k (by rw [HN.out]; exact hkn')
      have HXB := Bx.mk hxb
      have hcw : wr.cell? ⟨p, o + k, none⟩ = some x := by
        have hlt := World.block_lt_of_cell? _ _ hx
        rw [(HW0.out _ HA.out.2.2).cell (p := ⟨p, o + k, none⟩) hlt]
        exact hx
      obtain ⟨ax, cx, hxf, hxc, hxn⟩ := bytes_form hxb
      have HQl : Bx ((pss.getD k []).length ≤ 9223372036854775807) := Bx.mk (by
        have hm : pss.getD k [] ∈ pss := by
          have h : k < pss.length := by rw [HN.out]; exact hkn'
          rw [List.getD_eq_getElem?_getD, List.getElem?_eq_getElem h]
          exact List.getElem_mem h
        exact HP.out _ hm)
      have HSc : Bx ((pss.take (k + 1)).map (·.take 40) = (pss.take k).map (·.take 40) ++ [(pss.getD k []).take 40]) := Bx.mk (few10_succ pss k (by rw [HN.out]; exact hkn'))
      generalize pss.getD k [] = pk at *
      subst hxf
      obtain ⟨pl, hpl⟩ : ∃ pl, pk.length = pl := ⟨_, rfl⟩
      rw [hpl] at hcw hxc HQl
      have HXB2 : Bx (Bytes w0 (.slice ax pl cx) pk) := Bx.mk (by rw [← hpl]; exact HXB.out)
      obtain ⟨mm, hmm⟩ : ∃ mm, mm = min pl 40 := ⟨_, rfl⟩
      have m1 : (if (40 : Int) < (pl : Int) then (40 : Int) else (pl : Int)) = (mm : Int) := by split <;> omega
      have s1 := fun W => cut_bytes ax pl cx mm (by omega) (by omega) hxn W
      have hmc : (mm : Int) ≤ (cx : Int) := by omega
      have HB2 : Bx (Bytes w0 (.slice ax mm cx) (pk.take 40)) := Bx.mk (by
        have h := HXB2.out.take mm (by omega)
        have e : pk.take mm = pk.take 40 := by rw [hmm, ← hpl, Nat.min_comm, ← List.take_take, List.take_length]
        rw [e] at h
        exact h)
      have hpl1 : (pl : Int) ≤ 9223372036854775807 := by have := HQl.out; omega
      have HXl : Bx (xs.length ≤ 1000) := Bx.mk (by have := HA.out.1.1; rw [List.length_map, List.length_take] at this; omega)
      have hk0 : (0 : Int) ≤ (k : Int) := by omega
      have hpw : p < w0.heap.size := World.block_lt_of_cell? _ _ hx
      have HCW : Bx (w0.cell? ⟨p, o + k, none⟩ = some (.slice ax pl cx)) := Bx.mk (by rw [← hpl]; exact hx)
      clear hx hxb hcell hr' e2 e3 HXB hxc hxn hpl hmm HQl HXB2
      go_upto_region 5 with fail
      have B0 : Bx (OwnP wr.drew w.heap.size (.slice oa on oc) xs ∧ Below w.heap.size w wr.drew) := Bx.mk ⟨HA.out.2.1, HA.out.2.2.drew⟩
      refine wp_region_noPanic ?_
      refine wp_region_held_drew (S := fun W => W.cell? ⟨p, o + k, none⟩ = some (.slice ax pl cx)) (by kernel_rfl) (hcw) (fun hHeld => ?_)
      generalize wr.drew = W0 at *
      clear hcw
      refine takeL 0 (v := ?_) rfl (by kernel_rfl) (by kernel_rfl) (by kernel_rfl) (fun _ _ _ h => h) (Or.inl ⟨by rfl, ?_⟩) hHeld ?_
      rotate_left 1
      · (intro w hSw; go_simp; try with_reducible rfl)
      try simp only [Act.put, List.setIfInBounds_toArray, List.set_cons_zero, List.set_cons_succ]
      refine takeL 1 (v := ?_) rfl (by kernel_rfl) (by kernel_rfl) (by kernel_rfl) (fun _ _ _ h => h) (Or.inl ⟨by rfl, ?_⟩) hHeld ?_
      rotate_left 1
      · (intro w hSw; go_simp; try with_reducible rfl)
      try simp only [Act.put, List.setIfInBounds_toArray, List.set_cons_zero, List.set_cons_succ]
      refine takeL 2 (v := ?_) rfl (by kernel_rfl) (by kernel_rfl) (by kernel_rfl) (fun _ _ _ h => h) (Or.inl ⟨by rfl, ?_⟩) hHeld ?_
      rotate_left 1
      · (intro w hSw; go_simp; try with_reducible rfl)
      try simp only [Act.put, List.setIfInBounds_toArray, List.set_cons_zero, List.set_cons_succ]
      refine takeL 3 (v := ?_) rfl (by kernel_rfl) (by kernel_rfl) (by kernel_rfl) (fun _ _ _ h => h) (Or.inl ⟨by rfl, ?_⟩) hHeld ?_
      rotate_left 1
      · (intro w hSw; go_simp; try with_reducible rfl)
      try simp only [Act.put, List.setIfInBounds_toArray, List.set_cons_zero, List.set_cons_succ]
      refine takeL 4 (v := ?_) rfl (by kernel_rfl) (by kernel_rfl) (by kernel_rfl) (fun _ _ _ h => h) (Or.inl ⟨by rfl, ?_⟩) hHeld ?_
      rotate_left 1
      · (intro w hSw; go_simp; try with_reducible rfl)
      try simp only [Act.put, List.setIfInBounds_toArray, List.set_cons_zero, List.set_cons_succ]
      refine takeL 5 (v := ?_) rfl (by kernel_rfl) (by kernel_rfl) (by kernel_rfl) (fun _ _ _ h => h) (Or.inl ⟨by rfl, ?_⟩) hHeld ?_
      rotate_left 1
      · (intro w hSw; go_simp; try with_reducible rfl)
      try simp only [Act.put, List.setIfInBounds_toArray, List.set_cons_zero, List.set_cons_succ]
      refine takeL 6 (v := ?_) rfl (by kernel_rfl) (by kernel_rfl) (by kernel_rfl) (fun _ _ _ h => h) (Or.inl ⟨by rfl, ?_⟩) hHeld ?_
      rotate_left 1
      · (intro w hSw; go_simp; try with_reducible rfl)
      try simp only [Act.put, List.setIfInBounds_toArray, List.set_cons_zero, List.set_cons_succ]
      refine takeL 7 (v := ?_) rfl (by kernel_rfl) (by kernel_rfl) (by kernel_rfl) (fun _ _ _ h => h) (Or.inl ⟨by rfl, ?_⟩) hHeld ?_
      rotate_left 1
      · (intro w hSw; go_simp; try with_reducible rfl)
      try simp only [Act.put, List.setIfInBounds_toArray, List.set_cons_zero, List.set_cons_succ]
      refine takeL 8 (v := ?_) rfl (by kernel_rfl) (by kernel_rfl) (by kernel_rfl) (fun _ _ _ h => h) (Or.inl ⟨by rfl, ?_⟩) hHeld ?_
      rotate_left 1
      · (intro w hSw; go_simp; try with_reducible rfl)
      try simp only [Act.put, List.setIfInBounds_toArray, List.set_cons_zero, List.set_cons_succ]
      refine takeL 9 (v := ?_) rfl (by kernel_rfl) (by kernel_rfl) (by kernel_rfl) (fun _ _ _ h => h) (Or.inl ⟨by rfl, ?_⟩) hHeld ?_
      rotate_left 1
      · (intro w hSw; go_simp; try with_reducible rfl)
      try simp only [Act.put, List.setIfInBounds_toArray, List.set_cons_zero, List.set_cons_succ]
      refine takeL 10 (v := ?_) rfl (by kernel_rfl) (by kernel_rfl) (by kernel_rfl) (fun _ _ _ h => h) (Or.inl ⟨by rfl, ?_⟩) hHeld ?_
      rotate_left 1
      · (intro w hSw; go_simp; try with_reducible rfl)
      try simp only [Act.put, List.setIfInBounds_toArray, List.set_cons_zero, List.set_cons_succ]
      refine takeL 11 (v := ?_) rfl (by kernel_rfl) (by kernel_rfl) (by kernel_rfl) (fun _ _ _ h => h) (Or.inl ⟨by rfl, ?_⟩) hHeld ?_
      rotate_left 1
      · (intro w hSw; go_simp; try with_reducible rfl)
      try simp only [Act.put, List.setIfInBounds_toArray, List.set_cons_zero, List.set_cons_succ]
      refine stepL 12 (by kernel_rfl) rfl (fun K hK => ?_)
      go_simp
      show K _ _
      have B1 : Bx (OwnP (W0.alloc (.cells #[.slice ax mm cx] 22)) w.heap.size (.slice oa on oc) xs ∧ Below w.heap.size w (W0.alloc (.cells #[.slice ax mm cx] 22)) ∧ RowP (W0.alloc (.cells #[.slice ax mm cx] 22)) (.slice (some ⟨W0.heap.size, 0, none⟩) 1 1) [.slice ax mm cx]) := Bx.mk ⟨B0.out.1.a _, B0.out.2.alloc B0.out.2.size _, row_oneP _ _⟩
      clear B0
      refine hK.out _ _ (by rw [(HW0.out _ B1.out.2.1).cell (p := ⟨p, o + k, none⟩) hpw]; exact HCW.out) (fun hHeld => ?_)
      clear hK K
      try simp only [Act.put, List.setIfInBounds_toArray, List.set_cons_zero, List.set_cons_succ]
      generalize W0.alloc (.cells #[.slice ax mm cx] 22) = W1 at *
      refine stepL 13 (by kernel_rfl) rfl (fun K hK => ?_)
      refine step_apP (by rfl) _ _ rfl w.heap.size (.slice oa on oc) xs (by rfl) B1.out.1 _ [.slice ax mm cx] (by rfl) B1.out.2.2 (by intro u hu; simp at hu; subst hu; rfl) (by have := HXl.out; simp only [List.length_cons, List.length_nil]; omega) B1.out.2.1.size ?_
      intro v1 W2 ho1 hg1
      have B2 : Bx (OwnP W2 w.heap.size v1 (xs ++ [.slice ax mm cx]) ∧ Below w.heap.size w W2) := Bx.mk ⟨ho1, B1.out.2.1.trans (ownP_below B1.out.1 hg1 B1.out.2.1.size)⟩
      obtain ⟨a1, n1, c1, rfl⟩ := ownP_shape ho1
      clear ho1 hg1 B1
      refine hK.out _ _ (by rw [(HW0.out _ B2.out.2).cell (p := ⟨p, o + k, none⟩) hpw]; exact HCW.out) (fun hHeld => ?_)
      clear hK K
      try simp only [Act.put, List.setIfInBounds_toArray, List.set_cons_zero, List.set_cons_succ]
      refine takeL 14 (v := ?_) rfl (by kernel_rfl) (by kernel_rfl) (by kernel_rfl) (fun _ _ _ h => h) (Or.inl ⟨by rfl, ?_⟩) hHeld ?_
      rotate_left 1
      · (intro w hSw; go_simp; try with_reducible rfl)
      try simp only [Act.put, List.setIfInBounds_toArray, List.set_cons_zero, List.set_cons_succ]
      refine wpAnyH_done (by kernel_rfl) ?_ _
      refine NoPanic.normal ?_
      clear hHeld
      go_wp2
      go_roundw
      case rel => exact ⟨k + 1, xs ++ [.slice ax mm cx], by have := HN.out; omega, by omega, by go_num, by rw [HSc.out]; exact HA.out.1.snoc HB2.out, B2.out⟩
      case measure => simp [intOf]; omega
    · have HE : Bx ((pss.take k).map (·.take 40) = cut3Q pss) := Bx.mk (by
        unfold cut3Q
        by_cases h : k = 3
        · rw [h]
        · have h1 : pss.length ≤ k := by rw [HN.out]; omega
          rw [List.take_of_length_le h1, List.take_of_length_le (by omega)])
      have HF : Bx (Vals w0 xs (cut3Q pss) ∧ OwnP wr w.heap.size (.slice oa on oc) xs ∧ Below w.heap.size w wr) := Bx.mk (by rw [← HE.out]; exact HA.out)
      clear HA HE
      by_cases h1 : k < n
      · have t1 : (k : Int) < (n : Int) := by omega
        have t2 : ¬ (k : Int) < 3 := by omega
        go_wp2
        go_ret
        exact ⟨_, xs, rfl, HF.out⟩
      · have t1 : ¬ (k : Int) < (n : Int) := by omega
        go_wp2
        go_ret
        exact ⟨_, xs, rfl, HF.out⟩
/-- What Baker hands back. -/
def Bkr (w : World) (bs : List UInt8) (e : Ending) (w' : World) : Prop := ∃ p vk, e = .returned (.tuple #[.pointer (some ⟨p, 0, none⟩), vk]) ∧ Bytes w' vk (keyQ bs) ∧ w.heap.size ≤ p ∧ Below w.heap.size w w' ∧ (∀ q, q < w.heap.size ∨ p ≤ q → Bk w' q p 0 0 (keyQ bs)) ∧ BytesAt w' p vk (keyQ bs)
set_option maxRecDepth 100000 in
theorem baker10_any (bs : List UInt8) (v : Value) (w : World) (hv : Bytes w v bs) (hl : bs.length ≤ 9223372036854775807) :
    Calls Tryd.prog 7 #[v] w (Bkr w bs) := by
  have HK := Bx.mk (key10_any bs v w hv hl)
  have HN := Bx.mk fun (W : World) (vk : Value) (h : Bytes W vk (keyQ bs)) => cnew_ok (keyQ bs) vk W h (keyQ_le bs).2 (by have := (keyQ_le bs).1; omega)
  clear hv hl
  go_enter Tryd.func7, Tryd.ntmps7
  go_wp2_with fail
  refine HK.out.mono ?_
  rintro e w1 ⟨vk, rfl, hb1, hb⟩
  have H1 := Bx.mk (And.intro hb1 hb)
  clear hb1 hb HK
  go_wp2_with fail
  refine (HN.out w1 vk H1.out.1).mono ?_
  rintro e w2 ⟨p, rfl, hp, hb, hk⟩
  have H2 : Bx (Bytes w2 vk (keyQ bs) ∧ w.heap.size ≤ p ∧ Below w.heap.size w w2 ∧ (∀ q, q < w.heap.size ∨ p ≤ q → Bk w2 q p 0 0 (keyQ bs)) ∧ BytesAt w2 p vk (keyQ bs)) := Bx.mk ⟨H1.out.1.later hb, Nat.le_trans H1.out.2.size hp, H1.out.2.trans (hb.mono H1.out.2.size), fun q hq => hk q (by have := H1.out.2.size; omega), H1.out.1.apart hb p hp⟩
  clear hp hb hk HN H1
  go_wp2
  go_ret2
  exact ⟨_, _, rfl, H2.out⟩
end Go.Proofs.YtncbhnkhbohejaaDoor
namespace Go.Proofs.YtncbhnkhbohejaaDoor
open Go Go.RowKit
theorem q4_is (e : Nat) (h : e ≤ 16777300) : q4 e = [UInt8.ofNat (e / 16777216 % 256), UInt8.ofNat (e / 65536 % 256), UInt8.ofNat (e / 256 % 256), UInt8.ofNat (e % 256)] := by
  unfold q4 q2
  rw [show e / 65536 / 256 % 256 = e / 16777216 % 256 by omega]
  rfl
theorem ub_of (k : Nat) (h : k < 256) : ub (UInt8.ofNat k) = (k : Int) := by
  unfold ub; rw [UInt8.toNat_ofNat']; omega
theorem row_rngC {W : World} {g : Nat} {l : List Value} {t : TypeId} (h : W.heap[g]? = some (.cells l.toArray t (0, 0))) : W.rangeAt g 0 l := fun j v hv => by
  show W.cell? ⟨g, 0 + j, none⟩ = some v
  rw [cell_of_row _ _ _ _ _ _ h, Nat.zero_add]
  simpa using hv
/-- Parts behind a new row of two and what asks. -/
theorem two_more {w W W1 : World} {D : Nat} {v1 v2 v3 : Value} {p1 p2 : List UInt8} {ys : List Value} {pss : List (List UInt8)} (hb : Below w.heap.size w W) (hD : w.heap.size ≤ D) (h1 : BN W D v1 p1) (h2 : BN W D v2 p2) (hv : Vals w ys pss) (hg : W.grownBy W1 (some D)) (ho : OwnP W1 w.heap.size v3 ([v1, v2] ++ ys)) : PartsR W1 v3 (p1 :: p2 :: pss) :=
  ⟨_, own_rowP ho, Vals.cons (x := v1) (Vals.cons (x := v2) ⟨hv.1, fun j hj => (((hv.2 j hj).bn_old hb hD).later hg).1⟩ (h2.later hg).1) (h1.later hg).1⟩
set_option maxRecDepth 100000 in
set_option maxHeartbeats 1000000 in
theorem rcook_any (tbl : List Value) (htb : u32s (kTab ++ hTab) = tbl.toArray) (bs : List UInt8) (e a : Nat) (pss : List (List UInt8)) (vk vp : Value) (w : World) (hk : Bytes w vk bs) (hp : PartsR w vp pss)
    (hkl : bs.length ≤ 1000000) (hn : pss.length ≤ 80) (hpl : ∀ p ∈ pss, p.length ≤ 10000) (he : e ≤ 16777300) (ha : a ≤ 65535) :
    Calls Tryd.prog 14 #[.agg tbl.toArray, vk, .int .i64 (e : Int), .int .i64 (a : Int), vp] w fun en w' => ∃ v', en = .returned v' ∧ Bytes w' v' (cookK bs e a pss) ∧ Below w.heap.size w w' := by
  obtain ⟨z1, hz1⟩ : ∃ z, u8s (List.replicate 32 0) = z := ⟨_, rfl⟩
  have hz1v : ∀ W : World, (zeroValue 70).run Tryd.prog W = .ok (.agg z1) W := fun W => by rw [← hz1, zero32]; kernel_rfl
  have HZ1 := Bx.mk hz1
  have HTI : Bx ((Tryd.prog.info? 41).map (·.size) = some tbl.length) := Bx.mk (tbl_size3 htb)
  have HDe := Bx.mk fun (W : World) (vq : Value) (h : Bytes W vk bs) (hq : PartsR W vq (q4 e :: q2 a :: pss)) => rderive_any tbl htb bs cooL (q4 e :: q2 a :: pss) vk vq W h hq hkl (by decide) (by simp; omega) (by
    intro q hq; simp only [List.mem_cons] at hq
    rcases hq with rfl | rfl | hq
    · rw [q4_length]; omega
    · rw [q2_length]; omega
    · exact hpl q hq)
  have HL : Bx ((hmac bs (frame (cooL :: q4 e :: q2 a :: pss))).length = 32) := Bx.mk (hmac_length _ _)
  have HE : Bx (cookK bs e a pss = (hmac bs (frame (cooL :: q4 e :: q2 a :: pss))).take 16) := Bx.mk rfl
  generalize cookK bs e a pss = ck at *
  generalize hmac bs (frame (cooL :: q4 e :: q2 a :: pss)) = hm at *
  unfold cooL at HDe
  simp only [List.toArray] at HDe
  have HI : Bx ((Tryd.prog.info? 70).map (·.size) = some (u8s hm).size ∧ (u8s hm).size = z1.size) := Bx.mk ⟨by rw [u8s_size, HL.out]; kernel_rfl, by rw [← HZ1.out, u8s_size, u8s_size, HL.out]; rfl⟩
  have HK := Bx.mk hk
  obtain ⟨ys, hrow, hvals⟩ := hp
  have HR := Bx.mk (And.intro hrow hvals)
  have HYL : Bx (ys.length ≤ 80) := Bx.mk (by rw [hvals.1]; exact hn)
  clear hrow hvals hz1 htb hkl hn hpl hk
  have he0 : (0 : Int) ≤ (e : Int) := by omega
  have he1 : (e : Int) ≤ 16777300 := by omega
  have ha0 : (0 : Int) ≤ (a : Int) := by omega
  have ha1 : (a : Int) ≤ 65535 := by omega
  obtain ⟨B, hB⟩ : ∃ B, w.heap.size = B := ⟨_, rfl⟩
  obtain ⟨b0, hb0⟩ : ∃ b, UInt8.ofNat (e / 16777216 % 256) = b := ⟨_, rfl⟩
  obtain ⟨b1, hb1⟩ : ∃ b, UInt8.ofNat (e / 65536 % 256) = b := ⟨_, rfl⟩
  obtain ⟨b2, hb2⟩ : ∃ b, UInt8.ofNat (e / 256 % 256) = b := ⟨_, rfl⟩
  obtain ⟨b3, hb3⟩ : ∃ b, UInt8.ofNat (e % 256) = b := ⟨_, rfl⟩
  obtain ⟨b4, hb4⟩ : ∃ b, UInt8.ofNat (a / 256 % 256) = b := ⟨_, rfl⟩
  obtain ⟨b5, hb5⟩ : ∃ b, UInt8.ofNat (a % 256) = b := ⟨_, rfl⟩
  have HBY : Bx ((e : Int) / 16777216 = ub b0 ∧ (e : Int) / 65536 % 256 = ub b1 ∧ (e : Int) / 256 % 256 = ub b2 ∧ (e : Int) % 256 = ub b3 ∧ (a : Int) / 256 = ub b4 ∧ (a : Int) % 256 = ub b5) := Bx.mk (by
    refine ⟨?_, ?_, ?_, ?_, ?_, ?_⟩
    · rw [← hb0, ub_of _ (by omega)]; omega
    · rw [← hb1, ub_of _ (by omega)]; omega
    · rw [← hb2, ub_of _ (by omega)]; omega
    · rw [← hb3, ub_of _ (by omega)]; omega
    · rw [← hb4, ub_of _ (by omega)]; omega
    · rw [← hb5, ub_of _ (by omega)]; omega)
  have hq4 : q4 e = [b0, b1, b2, b3] := by rw [q4_is e he, hb0, hb1, hb2, hb3]
  have hq2 : q2 a = [b4, b5] := by unfold q2; rw [hb4, hb5]
  rw [hq4, hq2] at HDe
  clear hb0 hb1 hb2 hb3 hb4 hb5 hq4 hq2 he ha
  rw [hB]
  go_enter Tryd.func14, Tryd.ntmps14
  go_upto_region 2 with fail
  simp only [HBY.out.1, HBY.out.2.1, HBY.out.2.2.1, HBY.out.2.2.2.1]
  have hsz0 : (w.alloc (.cells tbl.toArray 41)).heap.size = B + 1 := by simp only [World.alloc, Array.size_push]; omega
  obtain ⟨w1, hw1⟩ : ∃ w1, (w.alloc (.cells tbl.toArray 41)).alloc (.cells #[.int .u8 (ub b0), .int .u8 (ub b1), .int .u8 (ub b2), .int .u8 (ub b3)] 5) = w1 := ⟨_, rfl⟩
  have H1 : Bx (Below B w w1 ∧ Bytes w1 (.slice (some ⟨B + 1, 0, none⟩) 4 4) [b0, b1, b2, b3] ∧ w1.heap[B]? = some (.cells tbl.toArray 41 (0, 0))) := Bx.mk ⟨by rw [← hw1, ← hB]; exact (below_a _).trans ((below_a _).mono (below_a _).size), by rw [← hw1, ← hsz0]; exact built _ [b0, b1, b2, b3], by rw [← hw1, hold _ _ _ (by rw [hsz0]; omega), hnew _ _ _ hB.symm]⟩
  have hs1 : w1.heap.size = B + 2 := by rw [← hw1]; simp only [World.alloc, Array.size_push]; omega
  rw [hw1]
  clear hw1 hsz0
  have H2 : Bx (Bytes (w1.alloc (.cells #[.int .u8 ((a : Int) / 256), .int .u8 ((a : Int) % 256)] 5)) (.slice (some ⟨B + 2, 0, none⟩) 2 2) [b4, b5]) := Bx.mk (by rw [HBY.out.2.2.2.2.1, HBY.out.2.2.2.2.2, ← hs1]; exact built w1 [b4, b5])
  obtain ⟨w2, hw2⟩ : ∃ w2, w1.alloc (.cells #[.int .u8 ((a : Int) / 256), .int .u8 ((a : Int) % 256)] 5) = w2 := ⟨_, rfl⟩
  have hb12 : Below w1.heap.size w1 w2 := by rw [← hw2]; exact below_a _
  have hs2 : w2.heap.size = B + 3 := by rw [← hw2]; simp only [World.alloc, Array.size_push]; omega
  rw [hw2] at H2
  have H3 : Bx (Below B w w2 ∧ Bytes w2 (.slice (some ⟨B + 1, 0, none⟩) 4 4) [b0, b1, b2, b3] ∧ w2.heap[B]? = some (.cells tbl.toArray 41 (0, 0))) := Bx.mk ⟨H1.out.1.trans (hb12.mono (by omega)), H1.out.2.1.later hb12, by rw [hb12.block _ (by omega)]; exact H1.out.2.2⟩
  obtain ⟨w3, hw3⟩ : ∃ w3, w2.alloc (.cells #[.slice (some ⟨B + 1, 0, none⟩) 4 4, .slice (some ⟨B + 2, 0, none⟩) 2 2] 22) = w3 := ⟨_, rfl⟩
  have hb23 : Below w2.heap.size w2 w3 := by rw [← hw3]; exact below_a _
  have H4 : Bx (Below B w w3 ∧ OwnP w3 B (.slice (some ⟨B + 3, 0, none⟩) 2 2) [.slice (some ⟨B + 1, 0, none⟩) 4 4, .slice (some ⟨B + 2, 0, none⟩) 2 2] ∧ BN w3 (B + 3) (.slice (some ⟨B + 1, 0, none⟩) 4 4) [b0, b1, b2, b3] ∧ BN w3 (B + 3) (.slice (some ⟨B + 2, 0, none⟩) 2 2) [b4, b5] ∧ w3.heap[B]? = some (.cells tbl.toArray 41 (0, 0)) ∧ B < w3.heap.size) := Bx.mk
    ⟨H3.out.1.trans (hb23.mono (by omega)), rowP_own (by rw [← hw3]; exact hnew _ _ _ hs2.symm) rfl (by omega) (by omega), H3.out.2.1.bn_old hb23 (by omega), H2.out.bn_old hb23 (by omega), by rw [hb23.block _ (by omega)]; exact H3.out.2.2, by have := hb23.size; omega⟩
  have hBs : B ≤ w3.heap.size := Nat.le_of_lt H4.out.2.2.2.2.2
  have HEnd : Bx (∀ v4 w4, OwnP w4 B v4 ([.slice (some ⟨B + 1, 0, none⟩) 4 4, .slice (some ⟨B + 2, 0, none⟩) 2 2] ++ ys) → w3.grownBy w4 (some (B + 3)) → PartsR w4 v4 ([b0, b1, b2, b3] :: [b4, b5] :: pss) ∧ Below B w w4 ∧ w4.heap[B]? = some (.cells tbl.toArray 41 (0, 0)) ∧ B < w4.heap.size) := Bx.mk (fun v4 w4 ho hg =>
    ⟨two_more (w := w) (by rw [hB]; exact H4.out.1) (by omega) H4.out.2.2.1 H4.out.2.2.2.1 HR.out.2 hg (by rw [hB]; exact ho), H4.out.1.trans (ownP_below H4.out.2.1 hg hBs), by rw [hg.block B H4.out.2.2.2.2.2 (fun e => by injection e; omega)]; exact H4.out.2.2.2.2.1, Nat.lt_of_lt_of_le H4.out.2.2.2.2.2 hg.size⟩)
  clear H1 H2 H3 hb12 hb23
  have HBw := Bx.mk hB
  go_upto_region 3 with (refine wpList_apR rfl _ _ rfl B _ [.slice (some ⟨B + 1, 0, none⟩) 4 4, .slice (some ⟨B + 2, 0, none⟩) 2 2] (by rfl) H4.out.2.1 _ ys (by rfl) (HR.out.1.later (by rw [HBw.out]; exact H4.out.1)) (vals_one HR.out.2) (by have := HYL.out; simp only [List.length_cons, List.length_nil]; omega) hBs ?_; intro v4 w4 h4 g4; have H5 := Bx.mk (HEnd.out v4 w4 h4 g4); have HO4 := Bx.mk (ownP_shape h4); clear h4 g4)
  obtain ⟨a4, n4, c4, rfl⟩ := HO4.out
  clear HEnd H4 HO4 hs1 hs2 hw2 hw3 hBs
  skip -- M1
  go_wp2_with (refine wpList_load_mid rfl 41 _ rfl B 0 (by rfl) tbl _ (row_rngC H5.out.2.2.1) Tryd.underlying41 rfl HTI.out ?_)
  refine (HDe.out w4 _ (HK.out.later (by rw [HBw.out]; exact H5.out.2.1)) H5.out.1).mono ?_
  rintro en w5 ⟨rfl, hb5⟩
  have H6 := Bx.mk (H5.out.2.1.trans (hb5.mono (Nat.le_of_lt H5.out.2.2.2)))
  clear hb5 H5 HDe
  go_upto_region 4 with (refine wpList_store_var rfl 70 _ _ rfl w5 _ _ rfl (by rfl) (u8s hm) (by rfl) HI.out.2 HI.out.1 (one_u8s _) ?_; intro w6 hb hr hl)
  have H7 : Bx (Below B w w6 ∧ Bytes w6 (.slice (some ⟨w5.heap.size, 0, none⟩) 32 32) hm) := Bx.mk ⟨H6.out.trans (hb.mono (by have := H6.out.size; omega)), row_bytes hr HL.out⟩
  clear hb hr hl H6
  skip -- M2
  go_wp2
  go_ret
  exact ⟨_, rfl, by rw [HE.out]; exact (H7.out.2.take 16 (by omega)), H7.out.1⟩
end Go.Proofs.YtncbhnkhbohejaaDoor
namespace Go.Proofs.YtncbhnkhbohejaaDoor
open Go Go.RowKit
theorem wpList_load_rowgC {P : Program} {ops : Array Oper} {rest : List Oper} {o : Oper} {a : Act} {w : World} {Q : Exit → Act → World → Prop} (hw : Region.wanted o (yielded ops a.tmps) = true) (ty : TypeId) (x : Operand) (ho : o.op = .load ty x)
    (g : Nat) (hx : a.eval x = .pointer (some ⟨g, 0, none⟩)) (t : TypeId) (cs : Array Value) (fr : Nat × Nat) (d : TypeDesc) (hg : w.heap[g]? = some (.cells cs t fr))
    (hu : P.underlying ty = some d) (hd : (match d with | .struct _ | .array _ _ => true | _ => false) = true) (hi : (P.info? ty).map (·.size) = some cs.size)
    (h : wpList P ops Q rest (a.put o.dst (.agg cs)) w) : wpList P ops Q (o :: rest) a w := by
  refine wpList_step fun K hK => ?_
  rw [if_pos hw]
  exact wp_load_row ty x ho g hx t cs fr d hg hu hd hi (hK _ _ h)
theorem dec_comm (a b : List UInt8) : decide (a = b) = decide (b = a) := by
  by_cases h : a = b
  · subst h; rfl
  · rw [decide_eq_false h, decide_eq_false (fun e => h e.symm)]
set_option maxRecDepth 100000 in
set_option maxHeartbeats 1000000 in
theorem rfresh_any (tbl : List Value) (htb : u32s (kTab ++ hTab) = tbl.toArray) (bs c : List UInt8) (t a : Nat) (pss : List (List UInt8)) (vk vc vp : Value) (w : World) (hk : Bytes w vk bs) (hvc : Bytes w vc c) (hp : PartsR w vp pss)
    (hkl : bs.length ≤ 1000000) (hcl : c.length ≤ 1000000) (hn : pss.length ≤ 80) (hpl : ∀ p ∈ pss, p.length ≤ 10000) (ht : t ≤ 1073742123) (ha : a ≤ 65535) :
    Calls Tryd.prog 18 #[.agg tbl.toArray, vk, vc, .int .i64 (a : Int), .int .i64 (t : Int), vp] w fun en w' => en = .returned (.bool (freK bs (t / 64) a pss c)) ∧ Below w.heap.size w w' := by
  have HTI : Bx ((Tryd.prog.info? 41).map (·.size) = some tbl.length) := Bx.mk (tbl_size3 htb)
  have HCo := Bx.mk fun (W : World) (e : Nat) (he : e ≤ 16777300) (hb : Below w.heap.size w W) => rcook_any tbl htb bs e a pss vk vp W (hk.later hb) (hp.later hb) hkl hn hpl he ha
  have HSa := Bx.mk fun (W : World) (e : Nat) (v : Value) (hb : Below w.heap.size w W) (hv : Bytes W v (cookK bs e a pss)) => same_any c (cookK bs e a pss) vc v W (hvc.later hb) hv (by omega) (by rw [cookK_length]; omega)
  obtain ⟨e, he⟩ : ∃ e, t / 64 = e := ⟨_, rfl⟩
  have he1 : (e : Int) ≤ 16777300 := by omega
  have he0 : (0 : Int) ≤ (e : Int) := by omega
  have het : (t : Int) / 64 = (e : Int) := by omega
  have HN : Bx (e ≤ 16777300) := Bx.mk (by omega)
  obtain ⟨B, hB⟩ : ∃ B, w.heap.size = B := ⟨_, rfl⟩
  obtain ⟨w0, hw0⟩ : ∃ w0, w.alloc (.cells tbl.toArray 41) = w0 := ⟨_, rfl⟩
  have H0 : Bx (Below B w w0 ∧ w0.heap[B]? = some (.cells tbl.toArray 41 (0, 0)) ∧ B < w0.heap.size) := Bx.mk ⟨by rw [← hB, ← hw0]; exact below_a _, by rw [← hw0]; exact hnew _ _ _ hB.symm, by rw [← hw0]; simp only [World.alloc, Array.size_push]; omega⟩
  have HBw := Bx.mk hB
  have hct : (t : Int) ≤ 1073742123 := by omega
  have ht0 : (0 : Int) ≤ (t : Int) := by omega
  rw [he]
  clear he htb hk hvc hp hkl hcl hn hpl ht ha
  unfold freK
  cases h1 : decide (cookK bs e a pss = c) with
  | true =>
    show Calls _ _ _ _ fun en w' => en = .returned (.bool true) ∧ _
    have g1 : decide (c = cookK bs e a pss) = true := by rw [dec_comm]; exact h1
    have HS1 := Bx.mk fun (W : World) (v : Value) (hb : Below w.heap.size w W) (hv : Bytes W v (cookK bs e a pss)) => HSa.out W e v hb hv
    rw [g1] at HS1
    clear h1 g1
    go_enter Tryd.func18, Tryd.ntmps18
    go_wp2_with (refine wpList_load_mid rfl 41 _ rfl B 0 (by rfl) tbl _ (row_rngC H0.out.2.1) Tryd.underlying41 rfl HTI.out ?_)
    refine (HCo.out w0 e HN.out (by rw [HBw.out]; exact H0.out.1)).mono ?_
    rintro en w1 ⟨v1, rfl, hv, hb⟩
    have H1 := Bx.mk (And.intro hv (And.intro (H0.out.1.trans (hb.mono (Nat.le_of_lt H0.out.2.2))) (And.intro (show w1.heap[B]? = some (.cells tbl.toArray 41 (0, 0)) by rw [hb.block _ H0.out.2.2]; exact H0.out.2.1) (Nat.lt_of_lt_of_le H0.out.2.2 hb.size))))
    clear hv hb
    go_wp2_with fail
    refine (HS1.out w1 v1 (by rw [HBw.out]; exact H1.out.2.1) H1.out.1).mono ?_
    rintro en w2 ⟨rfl, nd, rfl⟩
    have H2 : Bx (Below B w (w1.drewN nd) ∧ (w1.drewN nd).heap[B]? = some (.cells tbl.toArray 41 (0, 0)) ∧ B < (w1.drewN nd).heap.size) := Bx.mk ⟨below_drewN H1.out.2.1 _, H1.out.2.2⟩
    clear HS1 H1
    generalize w1.drewN nd = w2 at *
    go_wp2
    go_ret
    exact ⟨rfl, by rw [HBw.out]; exact H2.out.1⟩
  | false =>
    by_cases h0 : e = 0
    · have h3 : decide (0 < e) = false := decide_eq_false (by omega)
      rw [h3]
      show Calls _ _ _ _ fun en w' => en = .returned (.bool false) ∧ _
      have h4 : ¬ (0 : Int) < (e : Int) := by omega
      clear h0 h3
      have g1 : decide (c = cookK bs e a pss) = false := by rw [dec_comm]; exact h1
      have HS1 := Bx.mk fun (W : World) (v : Value) (hb : Below w.heap.size w W) (hv : Bytes W v (cookK bs e a pss)) => HSa.out W e v hb hv
      rw [g1] at HS1
      clear h1 g1
      go_enter Tryd.func18, Tryd.ntmps18
      go_wp2_with (refine wpList_load_mid rfl 41 _ rfl B 0 (by rfl) tbl _ (row_rngC H0.out.2.1) Tryd.underlying41 rfl HTI.out ?_)
      refine (HCo.out w0 e HN.out (by rw [HBw.out]; exact H0.out.1)).mono ?_
      rintro en w1 ⟨v1, rfl, hv, hb⟩
      have H1 := Bx.mk (And.intro hv (And.intro (H0.out.1.trans (hb.mono (Nat.le_of_lt H0.out.2.2))) (And.intro (show w1.heap[B]? = some (.cells tbl.toArray 41 (0, 0)) by rw [hb.block _ H0.out.2.2]; exact H0.out.2.1) (Nat.lt_of_lt_of_le H0.out.2.2 hb.size))))
      clear hv hb
      go_wp2_with fail
      refine (HS1.out w1 v1 (by rw [HBw.out]; exact H1.out.2.1) H1.out.1).mono ?_
      rintro en w2 ⟨rfl, nd, rfl⟩
      have H2 : Bx (Below B w (w1.drewN nd) ∧ (w1.drewN nd).heap[B]? = some (.cells tbl.toArray 41 (0, 0)) ∧ B < (w1.drewN nd).heap.size) := Bx.mk ⟨below_drewN H1.out.2.1 _, H1.out.2.2⟩
      clear HS1 H1
      generalize w1.drewN nd = w2 at *
      go_wp2
      go_ret
      exact ⟨rfl, by rw [HBw.out]; exact H2.out.1⟩
    · have h3 : decide (0 < e) = true := decide_eq_true (by omega)
      rw [h3]
      obtain ⟨d, hd⟩ : ∃ d, e - 1 = d := ⟨_, rfl⟩
      have hd1 : (e : Int) - 1 = (d : Int) := by omega
      have hd3 : (d : Int) ≤ 16777300 := by omega
      have hd4 : (0 : Int) ≤ (d : Int) := by omega
      have h4 : (0 : Int) < (e : Int) := by omega
      have HND : Bx (d ≤ 16777300) := Bx.mk (by omega)
      rw [hd, dec_comm (cookK bs d a pss) c]
      have HS2 := Bx.mk fun (W : World) (v : Value) (hb : Below w.heap.size w W) (hv : Bytes W v (cookK bs d a pss)) => HSa.out W d v hb hv
      obtain ⟨bb, hbb⟩ : ∃ bb, decide (c = cookK bs d a pss) = bb := ⟨_, rfl⟩
      rw [hbb] at HS2 ⊢
      show Calls _ _ _ _ fun en w' => en = .returned (.bool bb) ∧ _
      clear h0 h3 hd hbb
      have g1 : decide (c = cookK bs e a pss) = false := by rw [dec_comm]; exact h1
      have HS1 := Bx.mk fun (W : World) (v : Value) (hb : Below w.heap.size w W) (hv : Bytes W v (cookK bs e a pss)) => HSa.out W e v hb hv
      rw [g1] at HS1
      clear h1 g1
      go_enter Tryd.func18, Tryd.ntmps18
      go_wp2_with (refine wpList_load_mid rfl 41 _ rfl B 0 (by rfl) tbl _ (row_rngC H0.out.2.1) Tryd.underlying41 rfl HTI.out ?_)
      refine (HCo.out w0 e HN.out (by rw [HBw.out]; exact H0.out.1)).mono ?_
      rintro en w1 ⟨v1, rfl, hv, hb⟩
      have H1 := Bx.mk (And.intro hv (And.intro (H0.out.1.trans (hb.mono (Nat.le_of_lt H0.out.2.2))) (And.intro (show w1.heap[B]? = some (.cells tbl.toArray 41 (0, 0)) by rw [hb.block _ H0.out.2.2]; exact H0.out.2.1) (Nat.lt_of_lt_of_le H0.out.2.2 hb.size))))
      clear hv hb
      go_wp2_with fail
      refine (HS1.out w1 v1 (by rw [HBw.out]; exact H1.out.2.1) H1.out.1).mono ?_
      rintro en w2 ⟨rfl, nd, rfl⟩
      have H2 : Bx (Below B w (w1.drewN nd) ∧ (w1.drewN nd).heap[B]? = some (.cells tbl.toArray 41 (0, 0)) ∧ B < (w1.drewN nd).heap.size) := Bx.mk ⟨below_drewN H1.out.2.1 _, H1.out.2.2⟩
      clear HS1 H1
      generalize w1.drewN nd = w2 at *
      go_wp2_with (refine wpList_load_rowgC rfl 41 _ rfl B (by rfl) _ _ _ _ H2.out.2.1 Tryd.underlying41 rfl HTI.out ?_)
      skip -- M1
      refine (HCo.out w2 d HND.out (by rw [HBw.out]; exact H2.out.1)).mono ?_
      rintro en w3 ⟨v3, rfl, hv, hb⟩
      have H3 := Bx.mk (And.intro hv (H2.out.1.trans (hb.mono (Nat.le_of_lt H2.out.2.2))))
      clear hv hb H2
      go_wp2_with fail
      refine (HS2.out w3 v3 (by rw [HBw.out]; exact H3.out.2) H3.out.1).mono ?_
      rintro en w4 ⟨rfl, nd, rfl⟩
      have H4 := Bx.mk (below_drewN H3.out.2 nd)
      go_wp2
      go_ret
      exact ⟨rfl, by rw [HBw.out]; exact H4.out⟩
end Go.Proofs.YtncbhnkhbohejaaDoor
namespace Go.Proofs.YtncbhnkhbohejaaDoor
open Go Go.RowKit
structure CS (w : World) (p : Nat) (kq : List UInt8) (vk vo : Value) (xs : List Value) (n m : Nat) (W : World) : Prop where
  below : Below w.heap.size w W
  ge : w.heap.size ≤ p
  bk : Bk W p p n m kq
  key : BN W p vk kq
  own : ∃ b, p < b ∧ OwnP W b vo xs
theorem CS.later {w : World} {p : Nat} {kq : List UInt8} {vk vo : Value} {xs : List Value} {n m : Nat} {W W1 : World} (h : CS w p kq vk vo xs n m W) (hb : Below W.heap.size W W1) : CS w p kq vk vo xs n m W1 := by
  obtain ⟨b, hlt, ho⟩ := h.own
  exact ⟨h.below.trans (hb.mono h.below.size), h.ge, h.bk.later hb, h.key.below hb, b, hlt, ho.later hb (fun g hg => (ho.lt g hg).1)⟩
theorem CS.step {w : World} {p : Nat} {kq : List UInt8} {vk vo : Value} {xs : List Value} {n m n1 m1 : Nat} {W W1 : World} (h : CS w p kq vk vo xs n m W) (hk : Bk W1 p p n1 m1 kq) (hg : W.grownBy W1 (some p)) : CS w p kq vk vo xs n1 m1 W1 := by
  obtain ⟨b, hlt, ho⟩ := h.own
  refine ⟨h.below.trans (grown_belowC hg h.ge h.below.size), h.ge, hk, h.key.later hg, b, hlt, ho.grown hg (fun g e1 e2 => ?_)⟩
  have := (ho.lt g e2).2
  injection e1 with e1
  omega
theorem CS.parts {w : World} {p : Nat} {kq : List UInt8} {vk vo : Value} {xs : List Value} {n m : Nat} {W : World} {qs : List (List UInt8)} (h : CS w p kq vk vo xs n m W) (hv : Vals w xs qs) : ∀ W1, W.grownBy W1 (some p) → PartsR W1 vo qs := by
  intro W1 hg
  obtain ⟨b, hlt, ho⟩ := h.own
  refine ⟨xs, own_rowP (ho.grown hg (fun g e1 e2 => ?_)), hv.later (h.below.trans (grown_belowC hg h.ge h.below.size))⟩
  have := (ho.lt g e2).2
  injection e1 with e1
  omega
/-- A baker and what asks, from their makers. -/
theorem CS.make {w w1 w2 : World} {p : Nat} {kq : List UInt8} {vk vo : Value} {xs : List Value} (hp : w.heap.size ≤ p) (hb : Below w.heap.size w w1) (hk : Bk w1 p p 0 0 kq) (h1 : Bytes w1 vk kq) (h2 : BytesAt w1 p vk kq) (ho : OwnP w2 w1.heap.size vo xs) (hb2 : Below w1.heap.size w1 w2) : CS w p kq vk vo xs 0 0 w2 :=
  ⟨hb.trans (hb2.mono hb.size), hp, hk.later hb2, (show BN w1 p vk kq from ⟨h1, h2⟩).below hb2, w1.heap.size, hk.lt, ho⟩
end Go.Proofs.YtncbhnkhbohejaaDoor
namespace Go.Proofs.YtncbhnkhbohejaaDoor
open Go Go.RowKit
/-- A baker, what asks, and the cookie in its own block. -/
def CT (w : World) (p : Nat) (kq : List UInt8) (vk vo : Value) (xs : List Value) (D : Nat) (ck : List UInt8) (n m : Nat) (W : World) : Prop :=
  CS w p kq vk vo xs n m W ∧ BN W p (.slice (some ⟨D, 0, none⟩) 16 16) ck
theorem CT.later {w : World} {p : Nat} {kq : List UInt8} {vk vo : Value} {xs : List Value} {D : Nat} {ck : List UInt8} {n m : Nat} {W W1 : World} (h : CT w p kq vk vo xs D ck n m W) (hb : Below W.heap.size W W1) : CT w p kq vk vo xs D ck n m W1 := ⟨h.1.later hb, h.2.below hb⟩
theorem CT.step {w : World} {p : Nat} {kq : List UInt8} {vk vo : Value} {xs : List Value} {D : Nat} {ck : List UInt8} {n m n1 m1 : Nat} {W W1 : World} (h : CT w p kq vk vo xs D ck n m W) (hk : Bk W1 p p n1 m1 kq) (hg : W.grownBy W1 (some p)) : CT w p kq vk vo xs D ck n1 m1 W1 := ⟨h.1.step hk hg, h.2.later hg⟩
theorem fre_self (kq : List UInt8) (t a : Nat) (pss : List (List UInt8)) : freK kq (t / 64) a pss (cookK kq (t / 64) a pss) = true := by
  unfold freK; simp
/-- As long as Ends tells. -/
theorem fre_till (kq : List UInt8) (t u a : Nat) (pss : List (List UInt8)) (h1 : t ≤ u) (h2 : u < (t / 64 + 2) * 64) : freK kq (u / 64) a pss (cookK kq (t / 64) a pss) = true := by
  unfold freK
  have h : u / 64 = t / 64 ∨ u / 64 = t / 64 + 1 := by omega
  rcases h with h | h
  · rw [h]; simp
  · rw [h, show t / 64 + 1 - 1 = t / 64 by omega]; simp
theorem u64_wrap (l : Int) : IntKind.u64.wrap l = l % 18446744073709551616 := by simp [IntKind.wrap, IntKind.bits, IntKind.signed]
theorem wrap64_in (n : Int) (h1 : 0 ≤ n) (h2 : n ≤ 9223372036854775807) : wrap64 n = n := by unfold wrap64; omega
theorem later_is (t u : Nat) (l : Int) (hu : l % 18446744073709551616 % 300 = (u : Int)) (ht : t ≤ 1073741824) : wrap64 ((t : Int) + wrap64 ((IntKind.u64.wrap l).tmod 300)) = (t : Int) + (u : Int) := by
  have h0 : 0 ≤ l % 18446744073709551616 := Int.emod_nonneg _ (by decide)
  have h3 : (l % 18446744073709551616) % 300 < 300 := Int.emod_lt_of_pos _ (by decide)
  rw [u64_wrap, Int.tmod_eq_emod_of_nonneg h0, hu, wrap64_in (u : Int) (by omega) (by omega), wrap64_in _ (by omega) (by omega)]
theorem eq16 (l : List UInt8) (h : l = List.replicate 16 0) (W : World) : (binOp BinOp.eql 28 (.agg (u8s l)) (.agg (u8s l))).run Tryd.prog W = .ok (.bool true) W := by subst h; kernel_rfl
theorem build16 (z16 : Array Value) (h : u8s (List.replicate 16 0) = z16) (W : World) : (Instr.build 28 #[]).run Tryd.prog W = .ok (.agg z16) W := by subst h; kernel_rfl
end Go.Proofs.YtncbhnkhbohejaaDoor
