/-
  The document's Look.
-/
import Derived.Test.YtdbdpehagkglfaaW7
import Derived.Test.YtdbdpehagkglfaaH4
import Derived.BigQuiet
namespace Go.Proofs.Ytdbdpehagkglfaa
open Go Go.RowKit
theorem latN_bound (m : List Nn) (h : ∀ x ∈ m, okN x = true) : 0 ≤ (latN m).b ∧ (latN m).b ≤ 65535 ∧ 0 ≤ (latN m).c ∧ (latN m).c ≤ 2147483647 := by
  have key : ∀ k, k ≤ m.length → 0 ≤ (latN (m.take k)).b ∧ (latN (m.take k)).b ≤ 65535 ∧ 0 ≤ (latN (m.take k)).c ∧ (latN (m.take k)).c ≤ 2147483647 := by
    intro k
    induction k with
    | zero => intro _; exact by simp [latN, Nn.zero]
    | succ k ih =>
      intro hk
      rw [latN_succ m k (by omega)]
      split
      · have hx : m.getD k Nn.zero ∈ m := by
          rw [List.getD_eq_getElem?_getD, List.getElem?_eq_getElem (by omega)]
          exact List.getElem_mem _
        obtain ⟨h1, h2, h3, h4⟩ := (okN_iff _).1 (h _ hx)
        exact ⟨by omega, h2, by omega, h4⟩
      · exact ih (by omega)
  have := key m.length (Nat.le_refl _)
  rwa [List.take_length] at this
set_option maxRecDepth 100000 in
set_option maxHeartbeats 4000000 in
theorem rlook12_any (m : List Nn) (v : Value) (x : Nn) (w : World) (hv : NnsR w v m) (hn : m.length ≤ 1000) (hm : ∀ x ∈ m, okN x = true) (hfx : x.fit) :
    Calls Try.prog 41 #[v, nv x] w fun e w' => e = .returned (.int .i64 (dlookN m x)) ∧ Below w.heap.size w w' := by
  have HLa := Bx.mk fun (W : World) (hb : Below w.heap.size w W) => rlatest_any m v W (hv.later hb) hn
  have HRi := Bx.mk fun (W : World) => rright12_any x W
  have hbd := latN_bound m hm
  obtain ⟨a, cap, rfl, -, -, hr⟩ := hv
  obtain ⟨n, hnn⟩ : ∃ n, m.length = n := ⟨_, rfl⟩
  have HN := Bx.mk hnn
  rw [hnn] at hr hn HLa ⊢
  have HR := Bx.mk hr
  clear hr hnn hm
  have hn1 : (n : Int) ≤ 1000 := by omega
  have HT : Bx (m.take n = m) := Bx.mk (by rw [← HN.out, List.take_length])
  have R1 : Bx (BoxN 26 w.heap.size x (w.alloc (.cells #[.int .i64 x.b, .int .i64 x.c] 26)) ∧ Below w.heap.size w (w.alloc (.cells #[.int .i64 x.b, .int .i64 x.c] 26))) := Bx.mk ⟨hnew _ _ _ rfl, below_a _⟩
  cases hok : okN x with
  | false =>
    have HV : dlookN m x = 10 := by unfold dlookN; rw [if_pos hok]
    rw [HV]
    rw [hok] at HRi
    clear hok HV HLa HR HT hbd
    obtain ⟨b, c⟩ := x
    unfold nv at HRi ⊢
    simp only at HRi R1 ⊢
    go_enter Try.func41, Try.ntmps41
    go_wp2_with fail
    refine (HRi.out _).mono ?_
    rintro e w2 ⟨rfl, hb⟩
    have R2 := Bx.mk (And.intro (R1.out.1.later hb) (R1.out.2.trans (hb.mono R1.out.2.size)))
    clear hb R1 HRi
    go_wp2
    go_ret
    exact ⟨rfl, R2.out.2⟩
  | true =>
    rw [hok] at HRi
    have hV : dlookN m x = if x.b < (latN m).b ∨ x.b = (latN m).b ∧ x.c ≤ (latN m).c - 64 then 9 else if x ∈ m then 8 else 0 := by unfold dlookN; rw [if_neg (by rw [hok]; simp)]
    rw [hV]
    clear hok hV
    generalize latN m = y at *
    obtain ⟨b, c⟩ := x
    obtain ⟨yb, yc⟩ := y
    unfold nv at HRi HLa ⊢
    simp only at HRi R1 HLa hbd ⊢
    have e1 : IntKind.i64.wrap (yc - 64) = yc - 64 := by simp [IntKind.wrap_i64]; omega
    clear hbd
    by_cases h1 : b < yb
    · rw [if_pos (.inl h1)]
      have d1 : decide (b < yb) = true := decide_eq_true h1
      go_enter Try.func41, Try.ntmps41
      go_wp2_with fail
      refine (HRi.out _).mono ?_
      rintro e w2 ⟨rfl, hb⟩
      have R2 := Bx.mk (And.intro (R1.out.1.later hb) (R1.out.2.trans (hb.mono R1.out.2.size)))
      clear hb R1 HRi
      go_wp2_with fail
      refine (HLa.out _ R2.out.2).mono ?_
      rintro e w3 ⟨rfl, hb⟩
      have R3 : Bx (BoxN 26 w.heap.size ⟨b, c⟩ (w3.alloc (.cells #[.int .i64 yb, .int .i64 yc] 26)) ∧ BoxN 26 w3.heap.size ⟨yb, yc⟩ (w3.alloc (.cells #[.int .i64 yb, .int .i64 yc] 26)) ∧ Below w.heap.size w (w3.alloc (.cells #[.int .i64 yb, .int .i64 yc] 26))) := Bx.mk (by
        have h1 := R2.out.1.later hb
        have h2 := R2.out.2.trans (hb.mono R2.out.2.size)
        exact ⟨h1.later (below_a _), hnew _ _ _ rfl, h2.trans ((below_a _).mono h2.size)⟩)
      clear hb R2 HLa
      go_upto_region 4 with fail
      generalize w3.heap.size = Y at *
      generalize w3.alloc (.cells #[.int .i64 yb, .int .i64 yc] 26) = w4 at *
      obtain ⟨x0, x1⟩ := R3.out.1.cells
      obtain ⟨y0, y1⟩ := R3.out.2.1.cells
      go_wp2
      go_ret
      exact ⟨rfl, R3.out.2.2⟩
    · have d1 : decide (b < yb) = false := decide_eq_false h1
      by_cases h2 : b = yb
      · subst h2
        have d2 : decide (b = b) = true := decide_eq_true rfl
        by_cases h3 : c ≤ yc - 64
        · rw [if_pos (.inr ⟨rfl, h3⟩)]
          go_enter Try.func41, Try.ntmps41
          go_wp2_with fail
          refine (HRi.out _).mono ?_
          rintro e w2 ⟨rfl, hb⟩
          have R2 := Bx.mk (And.intro (R1.out.1.later hb) (R1.out.2.trans (hb.mono R1.out.2.size)))
          clear hb R1 HRi
          go_wp2_with fail
          refine (HLa.out _ R2.out.2).mono ?_
          rintro e w3 ⟨rfl, hb⟩
          have R3 : Bx (BoxN 26 w.heap.size ⟨b, c⟩ (w3.alloc (.cells #[.int .i64 b, .int .i64 yc] 26)) ∧ BoxN 26 w3.heap.size ⟨b, yc⟩ (w3.alloc (.cells #[.int .i64 b, .int .i64 yc] 26)) ∧ Below w.heap.size w (w3.alloc (.cells #[.int .i64 b, .int .i64 yc] 26))) := Bx.mk (by
            have h1 := R2.out.1.later hb
            have h2 := R2.out.2.trans (hb.mono R2.out.2.size)
            exact ⟨h1.later (below_a _), hnew _ _ _ rfl, h2.trans ((below_a _).mono h2.size)⟩)
          clear hb R2 HLa
          go_upto_region 4 with fail
          generalize w3.heap.size = Y at *
          generalize w3.alloc (.cells #[.int .i64 b, .int .i64 yc] 26) = w4 at *
          obtain ⟨x0, x1⟩ := R3.out.1.cells
          obtain ⟨y0, y1⟩ := R3.out.2.1.cells
          go_wp2
          go_ret
          exact ⟨rfl, R3.out.2.2⟩
        · rw [if_neg (by omega)]
          have HV : Bx (((⟨b, c⟩ : Nn) ∈ m → (if (⟨b, c⟩ : Nn) ∈ m then (8 : Int) else 0) = 8) ∧ ((⟨b, c⟩ : Nn) ∉ m → (if (⟨b, c⟩ : Nn) ∈ m then (8 : Int) else 0) = 0)) := Bx.mk ⟨fun h => if_pos h, fun h => if_neg h⟩
          generalize (if (⟨b, c⟩ : Nn) ∈ m then (8 : Int) else 0) = V at *
          go_enter Try.func41, Try.ntmps41
          go_wp2_with fail
          refine (HRi.out _).mono ?_
          rintro e w2 ⟨rfl, hb⟩
          have R2 := Bx.mk (And.intro (R1.out.1.later hb) (R1.out.2.trans (hb.mono R1.out.2.size)))
          clear hb R1 HRi
          go_wp2_with fail
          refine (HLa.out _ R2.out.2).mono ?_
          rintro e w3 ⟨rfl, hb⟩
          have R3 : Bx (BoxN 26 w.heap.size ⟨b, c⟩ (w3.alloc (.cells #[.int .i64 b, .int .i64 yc] 26)) ∧ BoxN 26 w3.heap.size ⟨b, yc⟩ (w3.alloc (.cells #[.int .i64 b, .int .i64 yc] 26)) ∧ Below w.heap.size w (w3.alloc (.cells #[.int .i64 b, .int .i64 yc] 26))) := Bx.mk (by
            have h1 := R2.out.1.later hb
            have h2 := R2.out.2.trans (hb.mono R2.out.2.size)
            exact ⟨h1.later (below_a _), hnew _ _ _ rfl, h2.trans ((below_a _).mono h2.size)⟩)
          clear hb R2 HLa
          go_upto_region 4 with fail
          generalize w3.heap.size = Y at *
          generalize w3.alloc (.cells #[.int .i64 b, .int .i64 yc] 26) = w4 at *
          obtain ⟨x0, x1⟩ := R3.out.1.cells
          obtain ⟨y0, y1⟩ := R3.out.2.1.cells
          have H0 : Bx (BoxN 26 w.heap.size ⟨b, c⟩ w4 ∧ Below w.heap.size w w4) := Bx.mk ⟨R3.out.1, R3.out.2.2⟩
          clear R3
          go_wp2
          go_loopw [6] (fun i wr => ∃ k : Nat, k ≤ n ∧ i = .int .i64 (k : Int) ∧ Bx ((⟨b, c⟩ : Nn) ∉ m.take k) ∧ Bx (BoxN 26 w.heap.size ⟨b, c⟩ wr ∧ Below w.heap.size w wr)) (fun i _ => n - (intOf i).toNat)
          case atStart => exact ⟨0, by omega, rfl, Bx.mk (by simp), H0⟩
          case round =>
            clear H0 x0 x1 y0 y1
            obtain ⟨k, hk, rfl, HM, HB⟩ := hrel
            by_cases hlt : k < n
            · have t1 : (k : Int) < (n : Int) := by omega
              have t0 : (0 : Int) ≤ (k : Int) := by omega
              obtain ⟨g, o, ha, hcell⟩ := HR.out (by omega)
              subst ha
              obtain ⟨d1, d2⟩ := hcell k hlt
              have c1 := (HB.out.2.cell (p := ⟨g, o + k * 2, none⟩) (World.block_lt_of_cell? _ _ d1)).trans d1
              have c2 := (HB.out.2.cell (p := ⟨g, o + k * 2 + 1, none⟩) (World.block_lt_of_cell? _ _ d2)).trans d2
              obtain ⟨x0, x1⟩ := HB.out.1.cells
              have HS := Bx.mk (takeN_succ m k (by rw [HN.out]; exact hlt))
              have HMem : Bx (m.getD k Nn.zero ∈ m) := Bx.mk (by
                rw [List.getD_eq_getElem?_getD, List.getElem?_eq_getElem (by rw [HN.out]; exact hlt)]
                exact List.getElem_mem _)
              generalize m.getD k Nn.zero = x at *
              obtain ⟨xb, xc⟩ := x
              clear hcell d1 d2
              by_cases e1 : xb = b
              · subst e1
                by_cases e2 : xc = c
                · subst e2
                  have HE := Bx.mk (HV.out.1 HMem.out)
                  clear HV HM HS HMem
                  go_wp2
                  skip -- M1
                  go_quiet (fail)
                  skip -- M2
                  go_wp2
                  skip -- M3
                  go_ret
                  exact ⟨by rw [HE.out]; rfl, below_drewN HB.out.2 _⟩
                · have HM2 : Bx ((⟨xb, c⟩ : Nn) ∉ m.take (k + 1)) := Bx.mk (by
                    rw [HS.out]
                    intro h
                    rcases List.mem_append.1 h with h | h
                    · exact HM.out h
                    · have h := (Nn.eq_iff _ _).1 (List.mem_singleton.1 h)
                      exact e2 h.2.symm)
                  clear HMem HS HM
                  go_wp2
                  go_quiet (fail)
                  have HB2 := Bx.mk (And.intro (HB.out.1.later (below_drewN (Below.refl _ _) nq)) (below_drewN HB.out.2 nq))
                  generalize wr.drewN nq = w5 at *
                  go_wp2
                  go_roundw
                  case rel => exact ⟨k + 1, by omega, by go_num, HM2, HB2⟩
                  case measure => simp [intOf]; omega
              · have HM2 : Bx ((⟨b, c⟩ : Nn) ∉ m.take (k + 1)) := Bx.mk (by
                  rw [HS.out]
                  intro h
                  rcases List.mem_append.1 h with h | h
                  · exact HM.out h
                  · have h := (Nn.eq_iff _ _).1 (List.mem_singleton.1 h)
                    exact e1 h.1.symm)
                clear HMem HS HM
                go_wp2
                go_quiet (fail)
                have HB2 := Bx.mk (And.intro (HB.out.1.later (below_drewN (Below.refl _ _) nq)) (below_drewN HB.out.2 nq))
                generalize wr.drewN nq = w5 at *
                go_wp2
                go_roundw
                case rel => exact ⟨k + 1, by omega, by go_num, HM2, HB2⟩
                case measure => simp [intOf]; omega
            · have t1 : ¬ (k : Int) < (n : Int) := by omega
              obtain rfl : k = n := by omega
              have HE := Bx.mk (HV.out.2 (by have := HM.out; rw [HT.out] at this; exact this))
              go_wp2
              go_ret
              exact ⟨by rw [HE.out]; rfl, HB.out.2⟩
      · have d2 : decide (b = yb) = false := decide_eq_false h2
        rw [if_neg (by omega)]
        have HV : Bx (((⟨b, c⟩ : Nn) ∈ m → (if (⟨b, c⟩ : Nn) ∈ m then (8 : Int) else 0) = 8) ∧ ((⟨b, c⟩ : Nn) ∉ m → (if (⟨b, c⟩ : Nn) ∈ m then (8 : Int) else 0) = 0)) := Bx.mk ⟨fun h => if_pos h, fun h => if_neg h⟩
        generalize (if (⟨b, c⟩ : Nn) ∈ m then (8 : Int) else 0) = V at *
        go_enter Try.func41, Try.ntmps41
        go_wp2_with fail
        refine (HRi.out _).mono ?_
        rintro e w2 ⟨rfl, hb⟩
        have R2 := Bx.mk (And.intro (R1.out.1.later hb) (R1.out.2.trans (hb.mono R1.out.2.size)))
        clear hb R1 HRi
        go_wp2_with fail
        refine (HLa.out _ R2.out.2).mono ?_
        rintro e w3 ⟨rfl, hb⟩
        have R3 : Bx (BoxN 26 w.heap.size ⟨b, c⟩ (w3.alloc (.cells #[.int .i64 yb, .int .i64 yc] 26)) ∧ BoxN 26 w3.heap.size ⟨yb, yc⟩ (w3.alloc (.cells #[.int .i64 yb, .int .i64 yc] 26)) ∧ Below w.heap.size w (w3.alloc (.cells #[.int .i64 yb, .int .i64 yc] 26))) := Bx.mk (by
          have h1 := R2.out.1.later hb
          have h2 := R2.out.2.trans (hb.mono R2.out.2.size)
          exact ⟨h1.later (below_a _), hnew _ _ _ rfl, h2.trans ((below_a _).mono h2.size)⟩)
        clear hb R2 HLa
        go_upto_region 4 with fail
        generalize w3.heap.size = Y at *
        generalize w3.alloc (.cells #[.int .i64 yb, .int .i64 yc] 26) = w4 at *
        obtain ⟨x0, x1⟩ := R3.out.1.cells
        obtain ⟨y0, y1⟩ := R3.out.2.1.cells
        have H0 : Bx (BoxN 26 w.heap.size ⟨b, c⟩ w4 ∧ Below w.heap.size w w4) := Bx.mk ⟨R3.out.1, R3.out.2.2⟩
        clear R3
        go_wp2
        go_loopw [6] (fun i wr => ∃ k : Nat, k ≤ n ∧ i = .int .i64 (k : Int) ∧ Bx ((⟨b, c⟩ : Nn) ∉ m.take k) ∧ Bx (BoxN 26 w.heap.size ⟨b, c⟩ wr ∧ Below w.heap.size w wr)) (fun i _ => n - (intOf i).toNat)
        case atStart => exact ⟨0, by omega, rfl, Bx.mk (by simp), H0⟩
        case round =>
          clear H0 x0 x1 y0 y1
          obtain ⟨k, hk, rfl, HM, HB⟩ := hrel
          by_cases hlt : k < n
          · have t1 : (k : Int) < (n : Int) := by omega
            have t0 : (0 : Int) ≤ (k : Int) := by omega
            obtain ⟨g, o, ha, hcell⟩ := HR.out (by omega)
            subst ha
            obtain ⟨d1, d2⟩ := hcell k hlt
            have c1 := (HB.out.2.cell (p := ⟨g, o + k * 2, none⟩) (World.block_lt_of_cell? _ _ d1)).trans d1
            have c2 := (HB.out.2.cell (p := ⟨g, o + k * 2 + 1, none⟩) (World.block_lt_of_cell? _ _ d2)).trans d2
            obtain ⟨x0, x1⟩ := HB.out.1.cells
            have HS := Bx.mk (takeN_succ m k (by rw [HN.out]; exact hlt))
            have HMem : Bx (m.getD k Nn.zero ∈ m) := Bx.mk (by
              rw [List.getD_eq_getElem?_getD, List.getElem?_eq_getElem (by rw [HN.out]; exact hlt)]
              exact List.getElem_mem _)
            generalize m.getD k Nn.zero = x at *
            obtain ⟨xb, xc⟩ := x
            clear hcell d1 d2
            by_cases e1 : xb = b
            · subst e1
              by_cases e2 : xc = c
              · subst e2
                have HE := Bx.mk (HV.out.1 HMem.out)
                clear HV HM HS HMem
                go_wp2
                skip -- M1
                go_quiet (fail)
                skip -- M2
                go_wp2
                skip -- M3
                go_ret
                exact ⟨by rw [HE.out]; rfl, below_drewN HB.out.2 _⟩
              · have HM2 : Bx ((⟨xb, c⟩ : Nn) ∉ m.take (k + 1)) := Bx.mk (by
                  rw [HS.out]
                  intro h
                  rcases List.mem_append.1 h with h | h
                  · exact HM.out h
                  · have h := (Nn.eq_iff _ _).1 (List.mem_singleton.1 h)
                    exact e2 h.2.symm)
                clear HMem HS HM
                go_wp2
                go_quiet (fail)
                have HB2 := Bx.mk (And.intro (HB.out.1.later (below_drewN (Below.refl _ _) nq)) (below_drewN HB.out.2 nq))
                generalize wr.drewN nq = w5 at *
                go_wp2
                go_roundw
                case rel => exact ⟨k + 1, by omega, by go_num, HM2, HB2⟩
                case measure => simp [intOf]; omega
            · have HM2 : Bx ((⟨b, c⟩ : Nn) ∉ m.take (k + 1)) := Bx.mk (by
                rw [HS.out]
                intro h
                rcases List.mem_append.1 h with h | h
                · exact HM.out h
                · have h := (Nn.eq_iff _ _).1 (List.mem_singleton.1 h)
                  exact e1 h.1.symm)
              clear HMem HS HM
              go_wp2
              go_quiet (fail)
              have HB2 := Bx.mk (And.intro (HB.out.1.later (below_drewN (Below.refl _ _) nq)) (below_drewN HB.out.2 nq))
              generalize wr.drewN nq = w5 at *
              go_wp2
              go_roundw
              case rel => exact ⟨k + 1, by omega, by go_num, HM2, HB2⟩
              case measure => simp [intOf]; omega
          · have t1 : ¬ (k : Int) < (n : Int) := by omega
            obtain rfl : k = n := by omega
            have HE := Bx.mk (HV.out.2 (by have := HM.out; rw [HT.out] at this; exact this))
            go_wp2
            go_ret
            exact ⟨by rw [HE.out]; rfl, HB.out.2⟩
end Go.Proofs.Ytdbdpehagkglfaa
namespace Go.Proofs.Ytdbdpehagkglfaa
open Go Go.RowKit
theorem lessN_iff (a b : Nn) : lessN a b = true ↔ a.b < b.b ∨ a.b = b.b ∧ a.c < b.c := by
  unfold lessN
  exact decide_eq_true_iff
theorem lessN_irrefl (a : Nn) : lessN a a = false := by
  cases h : lessN a a
  · rfl
  · have := (lessN_iff a a).1 h; omega
theorem lessN_trans {a b c : Nn} (h1 : lessN a b = true) (h2 : lessN b c = true) : lessN a c = true := by
  rw [lessN_iff] at *
  omega
/-- None is greater than the latest. -/
theorem latN_max (m : List Nn) : ∀ x ∈ m, lessN (latN m) x = false := by
  have key : ∀ k, k ≤ m.length → ∀ x ∈ m.take k, lessN (latN (m.take k)) x = false := by
    intro k
    induction k with
    | zero => intro _ x hx; simp at hx
    | succ k ih =>
      intro hk x hx
      rw [takeN_succ m k (by omega)] at hx
      rw [latN_succ m k (by omega)]
      generalize m.getD k Nn.zero = y at *
      cases hl : lessN (latN (m.take k)) y with
      | true =>
        rw [if_pos rfl]
        rcases List.mem_append.1 hx with hx | hx
        · have h1 := ih (by omega) x hx
          cases h2 : lessN y x
          · rfl
          · rw [lessN_trans hl h2] at h1; cases h1
        · rw [List.mem_singleton.1 hx]; exact lessN_irrefl y
      | false =>
        rw [if_neg (by simp)]
        rcases List.mem_append.1 hx with hx | hx
        · exact ih (by omega) x hx
        · rw [List.mem_singleton.1 hx]; exact hl
  have := key m.length (Nat.le_refl _)
  rwa [List.take_length] at this
/-- What a window and a list of nonces hold alike. -/
structure RelW (m : List Nn) (s : Ws) : Prop where
  lat : s.n = latN m
  ok : ∀ x ∈ m, okN x = true
  bits : ∀ d : Nat, d < 64 → s.t.getLsbD d = decide ((⟨s.n.b, s.n.c - (d : Int)⟩ : Nn) ∈ m)
theorem RelW.start : RelW [] Ws.zero := ⟨rfl, fun x hx => by simp at hx, fun d hd => by simp [Ws.zero]⟩
theorem RelW.none {m : List Nn} {s : Ws} (h : RelW m s) {x : Nn} (hx : s.n.b < x.b ∨ s.n.b = x.b ∧ s.n.c < x.c) : x ∉ m := fun hm => by
  have h1 := latN_max m x hm
  rw [← h.lat, (lessN_iff _ _).2 hx] at h1
  cases h1
theorem and_bit (t : BitVec 64) (d : Nat) (hd : d < 64) : (t &&& (1#64 <<< d) = 0#64) ↔ t.getLsbD d = false := by
  constructor
  · intro h
    have h1 : (t &&& (1#64 <<< d)).getLsbD d = false := by rw [h]; simp
    rw [BitVec.getLsbD_and, BitVec.getLsbD_shiftLeft] at h1
    simpa [hd] using h1
  · intro h
    apply BitVec.eq_of_getLsbD_eq
    intro i hi
    rw [BitVec.getLsbD_and, BitVec.getLsbD_shiftLeft]
    by_cases e : i = d
    · subst e; rw [h]; simp
    · by_cases e2 : i < d
      · simp [e2]
      · have : (1#64).getLsbD (i - d) = false := by
          rw [BitVec.getLsbD_one]
          simp
          omega
        rw [this]; simp
theorem RelW.look {m : List Nn} {s : Ws} (h : RelW m s) (n : Nn) : lookW s n = dlookN m n := by
  unfold lookW dlookN
  cases hok : okN n with
  | false => rw [if_pos rfl, if_pos rfl]
  | true =>
    rw [if_neg (show ¬ (true = false) by simp), if_neg (show ¬ (true = false) by simp), ← h.lat]
    obtain ⟨n1, n2, n3, n4⟩ := (okN_iff n).1 hok
    by_cases hf : n.b < s.n.b ∨ n.b = s.n.b ∧ n.c ≤ s.n.c - 64
    · rw [if_pos hf, if_pos]
      unfold forgW
      exact decide_eq_true (by omega)
    · rw [if_neg hf, if_neg (by unfold forgW; rw [decide_eq_false (by omega)]; simp)]
      unfold bitW
      by_cases hb : n.b = s.n.b ∧ n.c ≤ s.n.c
      · rw [if_pos hb]
        obtain ⟨d, hd⟩ : ∃ d : Nat, s.n.c - n.c = (d : Int) := ⟨(s.n.c - n.c).toNat, by omega⟩
        rw [hd, Int.toNat_natCast]
        have hd64 : d < 64 := by omega
        have hn : (⟨s.n.b, s.n.c - (d : Int)⟩ : Nn) = n := Nn.ext' hb.1.symm (by show s.n.c - (d : Int) = n.c; omega)
        have hbit := h.bits d hd64
        rw [hn] at hbit
        by_cases hm : n ∈ m
        · rw [if_pos hm, if_neg]
          rw [and_bit _ _ hd64, hbit, decide_eq_true hm]
          simp
        · rw [if_neg hm, if_pos]
          rw [and_bit _ _ hd64, hbit, decide_eq_false hm]
      · rw [if_neg hb, if_neg (h.none (by omega)), if_pos (by simp)]
theorem RelW.take {m : List Nn} {s : Ws} (h : RelW m s) {n : Nn} (h0 : lookW s n = 0) : RelW (m ++ [n]) (takeW s n) := by
  have hok : okN n = true := by
    unfold lookW at h0
    split at h0
    · omega
    · rename_i h1; simpa using h1
  have hfo : forgW s n = false := by
    unfold lookW at h0
    rw [if_neg (by rw [hok]; simp)] at h0
    split at h0
    · omega
    · rename_i h1; simpa using h1
  obtain ⟨n1, n2, n3, n4⟩ := (okN_iff n).1 hok
  have hf : ¬ (n.b < s.n.b ∨ n.b = s.n.b ∧ 64 ≤ s.n.c - n.c) := by unfold forgW at hfo; exact of_decide_eq_false hfo
  have hmem : ∀ x : Nn, decide (x ∈ m ++ [n]) = (decide (x ∈ m) || decide (x = n)) := fun x => by
    by_cases h1 : x ∈ m <;> by_cases h2 : x = n <;> simp [h1, h2]
  have hok' : ∀ x ∈ m ++ [n], okN x = true := fun x hx => by
    rcases List.mem_append.1 hx with hx | hx
    · exact h.ok x hx
    · rw [List.mem_singleton.1 hx]; exact hok
  unfold takeW
  rw [if_pos h0]
  cases hl : lessN s.n n with
  | true =>
    rw [if_pos rfl]
    have hl' := (lessN_iff _ _).1 hl
    refine ⟨?_, hok', ?_⟩
    · show n = _
      rw [latN_snoc, ← h.lat, hl, if_pos rfl]
    · intro d hd
      show ((riseW s n).t ||| bitW (riseW s n) n).getLsbD d = decide ((⟨n.b, n.c - (d : Int)⟩ : Nn) ∈ m ++ [n])
      have e1 : bitW (riseW s n) n = 1#64 := by
        unfold bitW
        rw [if_pos ⟨rfl, Int.le_refl _⟩, show (riseW s n).n.c - n.c = 0 from Int.sub_self _]
        rfl
      rw [e1, BitVec.getLsbD_or, hmem]
      have e2 : (1#64).getLsbD d = decide ((⟨n.b, n.c - (d : Int)⟩ : Nn) = n) := by
        rw [BitVec.getLsbD_one]
        by_cases hd0 : d = 0
        · subst hd0
          have e0 : (⟨n.b, n.c - ((0 : Nat) : Int)⟩ : Nn) = n := Nn.ext' rfl (by show n.c - ((0 : Nat) : Int) = n.c; omega)
          rw [e0]
          simp
        · have e0 : ¬ (⟨n.b, n.c - (d : Int)⟩ : Nn) = n := fun e => by have := ((Nn.eq_iff _ _).1 e).2; simp only at this; omega
          rw [decide_eq_false e0]
          simp [hd0]
      rw [e2]
      congr 1
      unfold riseW
      by_cases hb : n.b = s.n.b
      · show (if n.b = s.n.b then s.t <<< (n.c - s.n.c).toNat else 0#64).getLsbD d = _
        rw [if_pos hb]
        obtain ⟨k, hk⟩ : ∃ k : Nat, n.c - s.n.c = (k : Int) := ⟨(n.c - s.n.c).toNat, by omega⟩
        rw [hk, Int.toNat_natCast, BitVec.getLsbD_shiftLeft]
        by_cases hdk : d < k
        · have e0 : (⟨n.b, n.c - (d : Int)⟩ : Nn) ∉ m := h.none (.inr ⟨hb.symm, by show s.n.c < n.c - (d : Int); omega⟩)
          rw [decide_eq_false e0]
          simp [hdk]
        · have hb2 := h.bits (d - k) (by omega)
          rw [hb2, hb]
          have e3 : s.n.c - ((d - k : Nat) : Int) = n.c - (d : Int) := by omega
          rw [e3]
          simp [hd, hdk]
      · show (if n.b = s.n.b then s.t <<< (n.c - s.n.c).toNat else 0#64).getLsbD d = _
        have e0 : (⟨n.b, n.c - (d : Int)⟩ : Nn) ∉ m := h.none (.inl (by show s.n.b < n.b; omega))
        rw [if_neg hb, decide_eq_false e0]
        simp
  | false =>
    rw [if_neg (by simp)]
    have hl' : ¬ (s.n.b < n.b ∨ s.n.b = n.b ∧ s.n.c < n.c) := fun e => by rw [(lessN_iff _ _).2 e] at hl; cases hl
    have hb : n.b = s.n.b := by omega
    refine ⟨?_, hok', ?_⟩
    · show s.n = _
      rw [latN_snoc, ← h.lat, hl, if_neg (by simp)]
    · intro d hd
      show (s.t ||| bitW s n).getLsbD d = decide ((⟨s.n.b, s.n.c - (d : Int)⟩ : Nn) ∈ m ++ [n])
      rw [BitVec.getLsbD_or, hmem, h.bits d hd]
      congr 1
      unfold bitW
      rw [if_pos ⟨hb, by omega⟩]
      obtain ⟨k, hk⟩ : ∃ k : Nat, s.n.c - n.c = (k : Int) := ⟨(s.n.c - n.c).toNat, by omega⟩
      rw [hk, Int.toNat_natCast, BitVec.getLsbD_shiftLeft, BitVec.getLsbD_one]
      by_cases e : d = k
      · subst e
        have e0 : (⟨s.n.b, s.n.c - (d : Int)⟩ : Nn) = n := Nn.ext' hb.symm (by show s.n.c - (d : Int) = n.c; omega)
        rw [decide_eq_true e0]
        simp [hd]
      · have e0 : ¬ (⟨s.n.b, s.n.c - (d : Int)⟩ : Nn) = n := fun e' => by have := ((Nn.eq_iff _ _).1 e').2; simp only at this; omega
        rw [decide_eq_false e0]
        by_cases h2 : d < k
        · simp [h2]
        · have : d - k ≠ 0 := by omega
          simp [this]
theorem RelW.keep {m : List Nn} {s : Ws} (h : RelW m s) {n : Nn} (h0 : lookW s n ≠ 0) : takeW s n = s := by unfold takeW; rw [if_neg h0]
end Go.Proofs.Ytdbdpehagkglfaa
namespace Go.Proofs.Ytdbdpehagkglfaa
open Go Go.ChangeShapes Go.WideShapes Go.ChangeAt Go.RowKit
/-- A call: its kind, a tick, claims, bytes, a nonce. -/
structure A15 where
  kd : Int
  tk : Int
  c : Cl
  k : List UInt8
  n : Nn
def A15.zero : A15 := ⟨0, 0, c0, [], Nn.zero⟩
/-- A call's numbers are numbers. -/
def A15.fit (a : A15) : Prop := in64 a.kd ∧ in64 a.tk ∧ Cl64 a.c ∧ a.k.length ≤ 9223372036854775807 ∧ a.n.fit
/-- Calls behind a slice. -/
def Acts15 (w : World) (v : Value) (l : List A15) : Prop :=
  ∃ a cap, v = .slice a l.length cap ∧ (0 < l.length → ∃ b o, a = some ⟨b, o, none⟩ ∧ ∀ i, i < l.length → ∃ vb, w.rangeAt b (o + i * 9) [.int .i64 (l.getD i A15.zero).kd, .int .i64 (l.getD i A15.zero).tk, .int .i64 (l.getD i A15.zero).c.id, .int .i64 (l.getD i A15.zero).c.ro, .int .i64 (l.getD i A15.zero).c.ex, .int .i64 (l.getD i A15.zero).c.se, vb, .int .i64 (l.getD i A15.zero).n.b, .int .i64 (l.getD i A15.zero).n.c] ∧ Bytes w vb (l.getD i A15.zero).k ∧ (l.getD i A15.zero).fit)
theorem Acts15.form {w : World} {v : Value} {l : List A15} (h : Acts15 w v l) : ∃ a cap, v = .slice a l.length cap := by
  obtain ⟨a, cap, hv, -⟩ := h
  exact ⟨a, cap, hv⟩
theorem Acts15.start {w : World} {v : Value} {l : List A15} (h : Acts15 w v l) (hp : 0 < l.length) : ∃ b o cap, v = .slice (some ⟨b, o, none⟩) l.length cap := by
  obtain ⟨a, cap, hv, hr⟩ := h
  obtain ⟨b, o, ha, -⟩ := hr hp
  exact ⟨b, o, cap, by rw [hv, ha]⟩
theorem Acts15.at_ {w : World} {b o n cap : Nat} {l : List A15} (h : Acts15 w (.slice (some ⟨b, o, none⟩) n cap) l) (k : Nat) (hk : k < l.length) : ∃ vb, w.rangeAt b (o + k * 9) [.int .i64 (l.getD k A15.zero).kd, .int .i64 (l.getD k A15.zero).tk, .int .i64 (l.getD k A15.zero).c.id, .int .i64 (l.getD k A15.zero).c.ro, .int .i64 (l.getD k A15.zero).c.ex, .int .i64 (l.getD k A15.zero).c.se, vb, .int .i64 (l.getD k A15.zero).n.b, .int .i64 (l.getD k A15.zero).n.c] ∧ Bytes w vb (l.getD k A15.zero).k ∧ (l.getD k A15.zero).fit := by
  obtain ⟨a, cap', hv, hr⟩ := h
  obtain ⟨b', o', ha, hi⟩ := hr (by omega)
  injection hv with h1 h2 h3
  rw [ha] at h1
  injection h1 with h1
  injection h1 with h1 h4
  subst h1 h4
  exact hi k hk
set_option maxRecDepth 100000 in
theorem act_in15 {H : Type} {enc : TypeId × Value → H} {W : World} {fuel : Nat} {cs : List Value} {x : DataW H × List MemPlace} (h : DataW.trod enc Try.prog W 0 (fun _ => true) true fuel 32 cs = some x) :
    ∃ a : A15, ∃ vb, cs = [.int .i64 a.kd, .int .i64 a.tk, .int .i64 a.c.id, .int .i64 a.c.ro, .int .i64 a.c.ex, .int .i64 a.c.se, vb, .int .i64 a.n.b, .int .i64 a.n.c] ∧ Bytes W vb a.k ∧ a.fit := by
  obtain ⟨xs, n, -, -, hlen, hxl, hf⟩ := DataW.trod_struct Try.underlying32 h
  have hl9 : cs.length = 9 := hlen.trans (by kernel_rfl)
  have hx5 : xs.length = 5 := hxl
  match cs, hl9, xs, hx5 with
  | [q0, q1, q2, q3, q4, q5, q6, q7, q8], _, [y0, y1, y2, y3, y4], _ =>
    have g0 : DataW.trod enc Try.prog W 0 (fun _ => true) true n 3 [q0] = some y0 := hf 0 _ rfl
    have g1 : DataW.trod enc Try.prog W 0 (fun _ => true) true n 3 [q1] = some y1 := hf 1 _ rfl
    have g2 : DataW.trod enc Try.prog W 0 (fun _ => true) true n 24 [q2, q3, q4, q5] = some y2 := hf 2 _ rfl
    have g3 : DataW.trod enc Try.prog W 0 (fun _ => true) true n 30 [q6] = some y3 := hf 3 _ rfl
    have g4 : DataW.trod enc Try.prog W 0 (fun _ => true) true n 26 [q7, q8] = some y4 := hf 4 _ rfl
    obtain ⟨s, e0, -, w0⟩ := DataW.trod_int Try.underlying3 g0
    obtain ⟨m, e1, -, w1⟩ := DataW.trod_int Try.underlying3 g1
    obtain ⟨c, ec, hc⟩ := cl_in g2
    obtain ⟨bs, hb, hbl⟩ := raw_bytes g3
    obtain ⟨nn, en, hn⟩ := nonce_in g4
    simp at e0 e1
    subst e0 e1
    injection ec with z0 ec
    injection ec with z1 ec
    injection ec with z2 ec
    injection ec with z3 ec
    subst z0 z1 z2 z3
    injection en with z4 en
    injection en with z5 en
    subst z4 z5
    exact ⟨⟨s, m, c, bs, nn⟩, q6, rfl, hb, lit_i64 s w0, lit_i64 m w1, hc, hbl, hn⟩
set_option maxRecDepth 100000 in
theorem open_acts15 {H : Type} {enc : TypeId × Value → H} {W : World} {a : Option Addr} {len cap : Nat} {d : DataW H} {p : List MemPlace} (h : DataW.Trod enc Try.prog W 0 (fun _ => true) true 22 (.slice a len cap) d p) :
    ∃ l, Acts15 W (.slice a len cap) l ∧ l.length ≤ 9223372036854775807 := by
  obtain ⟨fuel, hf⟩ := h
  rcases Deep.open_slice Try.underlying22 hf with ⟨hcs, _⟩ | ⟨x, l, c, m, n, D, Pl, hcs, _, hl, hm, hmm, _, hi⟩
  · simp [Value.cells] at hcs
    obtain ⟨rfl, rfl, rfl⟩ := hcs
    exact ⟨[], ⟨none, 0, rfl, fun h => absurd h (by simp)⟩, by simp⟩
  · simp [Value.cells] at hcs
    obtain ⟨rfl, rfl, rfl⟩ := hcs
    have hcm : cap ≤ 9223372036854775807 := hm
    have hm2 : m = cap := by simpa using hmm
    have hC : Try.prog.cellsOf 32 = 9 := by kernel_rfl
    have hrow : ∀ i, i < len → ∃ o : A15, ∃ vb, (∀ j u, [.int .i64 o.kd, .int .i64 o.tk, .int .i64 o.c.id, .int .i64 o.c.ro, .int .i64 o.c.ex, .int .i64 o.c.se, vb, .int .i64 o.n.b, .int .i64 o.n.c][j]? = some u → W.cell? (x.add (i * 9 + j)) = some u) ∧ Bytes W vb o.k ∧ o.fit := fun i hil => by
      obtain ⟨cs', hc', ht⟩ := hi i (by omega)
      rw [hC] at hc'
      obtain ⟨_, hcl, hat⟩ := World.cells?_some hc'
      obtain ⟨o, vb, e, hb, hr⟩ := act_in15 ht
      refine ⟨o, vb, fun j u hj => ?_, hb, hr⟩
      have hj9 : j < 9 := by have := (List.getElem?_eq_some_iff.1 hj).1; simpa using this
      rw [← Deep.add_add, hat j hj9, e]
      exact hj
    haveI : Inhabited A15 := ⟨A15.zero⟩
    obtain ⟨f, hfb⟩ := Deep.choose_lt hrow
    have hlen : ((List.range len).map f).length = len := by simp
    refine ⟨(List.range len).map f, ⟨some x, cap, by rw [hlen], fun hp => ?_⟩, by rw [hlen]; omega⟩
    rw [hlen] at hp
    obtain ⟨vb0, hc0, -⟩ := hfb 0 hp
    have h00 := hc0 0 _ rfl
    obtain ⟨b, off, spot⟩ := x
    have hspot : spot = none := by simpa [Addr.add] using World.cell?_spot h00
    subst hspot
    refine ⟨b, off, rfl, fun i hi2 => ?_⟩
    rw [hlen] at hi2
    have e : ((List.range len).map f).getD i A15.zero = f i := by simp [hi2]
    rw [e]
    obtain ⟨vb, hc1, hb1, hl1⟩ := hfb i hi2
    refine ⟨vb, fun j u hj => ?_, hb1, hl1⟩
    have := hc1 j u hj
    rw [Go.WideShapes.add_plain] at this
    show W.cell? ⟨b, off + i * 9 + j, none⟩ = some u
    rw [Nat.add_assoc]
    exact this
/-- An entry of the book and of the document: the key's and the nonces' slices, the nonces that were taken, when it was asked for. -/
structure Zz where
  e : En
  kv : Value
  tv : Value
  ns : List Nn
  ask : Int
/-- An entry of the document, as cells. -/
def encZ (z : Zz) : List Value := [.int .i64 z.e.c.id, .int .i64 z.e.c.ro, .int .i64 z.e.c.ex, .int .i64 z.e.c.se, .bool z.e.k.isSome, .int .i64 z.ask, z.kv, z.tv]
theorem encZ_len (z : Zz) : (encZ z).length = 8 := rfl
/-- Entries of the document in a row of one's own. -/
def RowZ (w : World) (base : Nat) (v : Value) (zs : List Zz) : Prop := OwnG 56 8 encZ w base v zs
theorem elEn : ElT 29 56 8 96 := elT_of (.agg #[.int .i64 0, .int .i64 0, .int .i64 0, .int .i64 0, .bool false, .int .i64 0, .slice none 0 0, .slice none 0 0]) Try.underlying29 (by kernel_rfl) rfl (by decide) (by decide)
theorem elRc : ElT 43 24 4 32 := elT_of (.agg #[.int .i64 0, .int .i64 0, .int .i64 0, .int .i64 0]) Try.underlying43 (by kernel_rfl) rfl (by decide) (by decide)
/-- The first four cells. -/
theorem rngZ4 {W : World} {g o : Nat} {z : Zz} (h : W.rangeAt g o (encZ z)) : W.rangeAt g o [.int .i64 z.e.c.id, .int .i64 z.e.c.ro, .int .i64 z.e.c.ex, .int .i64 z.e.c.se] := fun j u hj => by
  have hj4 : j < 4 := (List.getElem?_eq_some_iff.1 hj).1
  refine h j u ?_
  match j, hj4 with
  | 0, _ => exact hj
  | 1, _ => exact hj
  | 2, _ => exact hj
  | 3, _ => exact hj
theorem rngZ {W : World} {g o : Nat} {z : Zz} (h : W.rangeAt g o (encZ z)) : W.cell? ⟨g, o + 4, none⟩ = some (.bool z.e.k.isSome) ∧ W.cell? ⟨g, o + 5, none⟩ = some (.int .i64 z.ask) ∧ W.cell? ⟨g, o + 6, none⟩ = some z.kv ∧ W.cell? ⟨g, o + 7, none⟩ = some z.tv := ⟨h 4 _ rfl, h 5 _ rfl, h 6 _ rfl, h 7 _ rfl⟩
end Go.Proofs.Ytdbdpehagkglfaa
namespace Go.Proofs.Ytdbdpehagkglfaa
open Go Go.RowKit
set_option maxRecDepth 100000 in
set_option maxHeartbeats 4000000 in
theorem rfind_out (base : Nat) (mv : Value) (zs : List Zz) (c : Cl) (w : World) (h : RowZ w base mv zs) (hl : zs.length ≤ 1000) (hn : ∀ z ∈ zs, z.e.c ≠ c) : Calls Try.prog 19 #[mv, clV c] w fun e w' => e = .returned (.int .i64 (-1)) ∧ Below w.heap.size w w' := by
  obtain ⟨a, cap, rfl, -, -⟩ := h.form
  have HV := Bx.mk h
  obtain ⟨X, hX⟩ : ∃ X, w.heap.size = X := ⟨_, rfl⟩
  obtain ⟨n, hns⟩ : ∃ n, zs.length = n := ⟨_, rfl⟩
  have HN := Bx.mk hns
  have HQ := Bx.mk fun k (hk : k < zs.length) => hn _ (List.getElem_mem hk)
  clear hn
  rw [hns] at HV hl ⊢
  clear h hns
  obtain ⟨i, r, x, q⟩ := c
  have HBo : Bx ((w.alloc (.cells #[.int .i64 i, .int .i64 r, .int .i64 x, .int .i64 q] 24)).rangeAt X 0 [.int .i64 i, .int .i64 r, .int .i64 x, .int .i64 q] ∧ RowZ (w.alloc (.cells #[.int .i64 i, .int .i64 r, .int .i64 x, .int .i64 q] 24)) base (.slice a n cap) zs ∧ Below w.heap.size w (w.alloc (.cells #[.int .i64 i, .int .i64 r, .int .i64 x, .int .i64 q] 24))) := Bx.mk ⟨hX ▸ box_rng w ⟨i, r, x, q⟩ 24, HV.out.later (below_a _), below_a _⟩
  unfold clV
  simp only
  clear HV
  go_enter Try.func19, Try.ntmps19
  go_wp2
  generalize w.alloc (.cells #[.int .i64 i, .int .i64 r, .int .i64 x, .int .i64 q] 24) = w1 at *
  go_loopw [5] (fun j wr => ∃ k : Nat, k ≤ n ∧ j = .int .i64 (k : Int) ∧ Bx True ∧ (wr.rangeAt X 0 [.int .i64 i, .int .i64 r, .int .i64 x, .int .i64 q] ∧ RowZ wr base (.slice a n cap) zs) ∧ Below w.heap.size w wr) (fun j _ => n - (intOf j).toNat)
  case atStart => exact ⟨0, Nat.zero_le _, rfl, Bx.mk trivial, ⟨HBo.out.1, HBo.out.2.1⟩, HBo.out.2.2⟩
  case round =>
    obtain ⟨k, hk, rfl, HI, HR1, HB1⟩ := hrel
    by_cases hlt : k < n
    · have hlt' : (k : Int) < (n : Int) := by omega
      obtain ⟨g, cap2, hgv⟩ := HR1.2.start (by rw [HN.out]; omega)
      injection hgv with hg1 hg2 hg3
      subst hg1
      have hkz : k < zs.length := by rw [HN.out]; exact hlt
      have hrg := rngZ4 (HR1.2.at_ encZ_len k hkz)
      have R0 : Bx ((wr.drew.rangeAt X 0 [.int .i64 i, .int .i64 r, .int .i64 x, .int .i64 q] ∧ RowZ wr.drew base (.slice (some ⟨g, 0, none⟩) n cap) zs) ∧ wr.drew.rangeAt g (k * 8) [.int .i64 (zs[k]).e.c.id, .int .i64 (zs[k]).e.c.ro, .int .i64 (zs[k]).e.c.ex, .int .i64 (zs[k]).e.c.se] ∧ Below w.heap.size w wr.drew) := Bx.mk ⟨⟨HR1.1, HR1.2.later (Below.refl _ wr).drew⟩, hrg, HB1.drew⟩
      clear HR1 HB1 hrg
      · have HH : Bx True := Bx.mk trivial
        have hcc := HQ.out k hkz
        generalize (zs[k]).e.c = y at *
        obtain ⟨y0, y1, y2, y3⟩ := y
        simp only at R0
        have HM := Bx.mk (fun h => hcc h.symm : ¬ ((⟨i, r, x, q⟩ : Cl) = ⟨y0, y1, y2, y3⟩))
        clear HI hcc hg2 hg3
        go_upto_region 4 with fail
        refine wp_region_noPanic ?_
        refine wp_region_held_drew (S := fun W => W.rangeAt g (k * 8) [.int .i64 y0, .int .i64 y1, .int .i64 y2, .int .i64 y3] ∧ W.rangeAt X 0 [.int .i64 i, .int .i64 r, .int .i64 x, .int .i64 q]) (by kernel_rfl) (⟨R0.out.2.1, R0.out.1.1⟩) (fun hHeld => ?_)
        refine takeL 0 (v := ?_) rfl (by kernel_rfl) (by kernel_rfl) (by kernel_rfl) (fun _ _ _ h => h) (Or.inl ⟨by rfl, ?_⟩) hHeld ?_
        rotate_left 1
        · (intro w hSw; go_simp; try with_reducible rfl)
        try simp only [Act.put, List.setIfInBounds_toArray, List.set_cons_zero, List.set_cons_succ]
        refine takeL 1 (v := ?_) rfl (by kernel_rfl) (by kernel_rfl) (by kernel_rfl) (fun _ _ _ h => h) (Or.inl ⟨by rfl, ?_⟩) hHeld ?_
        rotate_left 1
        · (intro w hSw; go_simp; try with_reducible rfl)
        try simp only [Act.put, List.setIfInBounds_toArray, List.set_cons_zero, List.set_cons_succ]
        refine takeL 2 (v := ?_) rfl (by kernel_rfl) (by kernel_rfl) (by kernel_rfl) (fun _ _ _ h => h) (Or.inl ⟨by rfl, ?_⟩) hHeld ?_
        rotate_left 1
        · (intro w hSw; go_simp; try with_reducible rfl)
        try simp only [Act.put, List.setIfInBounds_toArray, List.set_cons_zero, List.set_cons_succ]
        refine takeL 3 (v := ?_) rfl (by kernel_rfl) (by kernel_rfl) (by kernel_rfl) (fun _ _ _ h => h) (Or.inl ⟨by rfl, ?_⟩) hHeld ?_
        rotate_left 1
        · (intro w hSw; go_simp; try with_reducible rfl)
        try simp only [Act.put, List.setIfInBounds_toArray, List.set_cons_zero, List.set_cons_succ]
        refine takeL 4 rfl (by kernel_rfl) (by kernel_rfl) (by kernel_rfl) (fun _ _ _ h => h) (yieldsIf_load_mid (by rfl) _ _ rfl _ _ rfl _ _ (fun w hSw => hSw.1) Try.underlying24 rfl (by kernel_rfl)) hHeld ?_
        try simp only [Act.put, List.setIfInBounds_toArray, List.set_cons_zero, List.set_cons_succ]
        refine takeL 5 rfl (by kernel_rfl) (by kernel_rfl) (by kernel_rfl) (fun _ _ _ h => h) (yieldsIf_load_mid (by rfl) _ _ rfl _ _ rfl _ _ (fun w hSw => hSw.2) Try.underlying24 rfl (by kernel_rfl)) hHeld ?_
        try simp only [Act.put, List.setIfInBounds_toArray, List.set_cons_zero, List.set_cons_succ]
        refine takeL 6 (v := ?_) rfl (by kernel_rfl) (by kernel_rfl) (by kernel_rfl) (fun _ _ _ h => h) (Or.inl ⟨by rfl, ?_⟩) hHeld ?_
        rotate_left 1
        · (intro w hSw; have hm := HM.out; go_simp; show _ = Result.ok (Next.value (Value.bool false)) w; (repeat' split) <;> simp_all)
        try simp only [Act.put, List.setIfInBounds_toArray, List.set_cons_zero, List.set_cons_succ]
        refine wpAnyH_done (by kernel_rfl) ?_ _
        refine NoPanic.normal ?_
        clear hHeld
        go_wp2
        go_roundw
        case rel => exact ⟨k + 1, by omega, by go_num, HH, R0.out.1, R0.out.2.2⟩
        case measure => simp [intOf]; omega
    · have hlt' : ¬ (k : Int) < (n : Int) := by omega
      clear HI
      go_wp2
      go_ret
      exact ⟨rfl, by first | exact HB1 | (rw [← hX]; exact HB1)⟩
set_option maxRecDepth 100000 in
set_option maxHeartbeats 4000000 in
theorem rfind_at (base : Nat) (mv : Value) (zs : List Zz) (c : Cl) (w : World) (h : RowZ w base mv zs) (hl : zs.length ≤ 1000) (K : Nat) (hK : K < zs.length) (hc : (zs[K]).e.c = c) (hb : ∀ j (hj : j < zs.length), j < K → (zs[j]).e.c ≠ c) : Calls Try.prog 19 #[mv, clV c] w fun e w' => e = .returned (.int .i64 (K : Int)) ∧ Below w.heap.size w w' := by
  obtain ⟨a, cap, rfl, -, -⟩ := h.form
  have HV := Bx.mk h
  obtain ⟨X, hX⟩ : ∃ X, w.heap.size = X := ⟨_, rfl⟩
  obtain ⟨n, hns⟩ : ∃ n, zs.length = n := ⟨_, rfl⟩
  have HN := Bx.mk hns
  have HQ := Bx.mk fun k (hk : k < zs.length) (hkK : k < K) => hb k hk hkK
  have HK := Bx.mk (And.intro hK hc)
  clear hb hc
  rw [hns] at HV hl hK ⊢
  clear h hns
  obtain ⟨i, r, x, q⟩ := c
  have HBo : Bx ((w.alloc (.cells #[.int .i64 i, .int .i64 r, .int .i64 x, .int .i64 q] 24)).rangeAt X 0 [.int .i64 i, .int .i64 r, .int .i64 x, .int .i64 q] ∧ RowZ (w.alloc (.cells #[.int .i64 i, .int .i64 r, .int .i64 x, .int .i64 q] 24)) base (.slice a n cap) zs ∧ Below w.heap.size w (w.alloc (.cells #[.int .i64 i, .int .i64 r, .int .i64 x, .int .i64 q] 24))) := Bx.mk ⟨hX ▸ box_rng w ⟨i, r, x, q⟩ 24, HV.out.later (below_a _), below_a _⟩
  unfold clV
  simp only
  clear HV
  go_enter Try.func19, Try.ntmps19
  go_wp2
  generalize w.alloc (.cells #[.int .i64 i, .int .i64 r, .int .i64 x, .int .i64 q] 24) = w1 at *
  go_loopw [5] (fun j wr => ∃ k : Nat, k ≤ K ∧ j = .int .i64 (k : Int) ∧ Bx True ∧ (wr.rangeAt X 0 [.int .i64 i, .int .i64 r, .int .i64 x, .int .i64 q] ∧ RowZ wr base (.slice a n cap) zs) ∧ Below w.heap.size w wr) (fun j _ => n - (intOf j).toNat)
  case atStart => exact ⟨0, Nat.zero_le _, rfl, Bx.mk trivial, ⟨HBo.out.1, HBo.out.2.1⟩, HBo.out.2.2⟩
  case round =>
    obtain ⟨k, hk, rfl, HI, HR1, HB1⟩ := hrel
    by_cases hlt : k < n
    · have hlt' : (k : Int) < (n : Int) := by omega
      obtain ⟨g, cap2, hgv⟩ := HR1.2.start (by rw [HN.out]; omega)
      injection hgv with hg1 hg2 hg3
      subst hg1
      have hkz : k < zs.length := by rw [HN.out]; exact hlt
      have hrg := rngZ4 (HR1.2.at_ encZ_len k hkz)
      have R0 : Bx ((wr.drew.rangeAt X 0 [.int .i64 i, .int .i64 r, .int .i64 x, .int .i64 q] ∧ RowZ wr.drew base (.slice (some ⟨g, 0, none⟩) n cap) zs) ∧ wr.drew.rangeAt g (k * 8) [.int .i64 (zs[k]).e.c.id, .int .i64 (zs[k]).e.c.ro, .int .i64 (zs[k]).e.c.ex, .int .i64 (zs[k]).e.c.se] ∧ Below w.heap.size w wr.drew) := Bx.mk ⟨⟨HR1.1, HR1.2.later (Below.refl _ wr).drew⟩, hrg, HB1.drew⟩
      clear HR1 HB1 hrg
      by_cases hit : k = K
      · subst hit
        have HH : Bx (Ending.returned (Value.int .i64 (k : Int)) = .returned (.int .i64 (k : Int))) := Bx.mk rfl
        have hcc := HK.out.2
        generalize (zs[k]).e.c = y at *
        obtain ⟨y0, y1, y2, y3⟩ := y
        simp only at R0
        injection hcc with e0 e1 e2 e3
        subst e0 e1 e2 e3
        clear HI hg2 hg3
        go_upto_region 4 with fail
        refine wp_region_noPanic ?_
        refine wp_region_held_drew (S := fun W => W.rangeAt g (k * 8) [.int .i64 y0, .int .i64 y1, .int .i64 y2, .int .i64 y3] ∧ W.rangeAt X 0 [.int .i64 y0, .int .i64 y1, .int .i64 y2, .int .i64 y3]) (by kernel_rfl) (⟨R0.out.2.1, R0.out.1.1⟩) (fun hHeld => ?_)
        refine takeL 0 (v := ?_) rfl (by kernel_rfl) (by kernel_rfl) (by kernel_rfl) (fun _ _ _ h => h) (Or.inl ⟨by rfl, ?_⟩) hHeld ?_
        rotate_left 1
        · (intro w hSw; go_simp; try with_reducible rfl)
        try simp only [Act.put, List.setIfInBounds_toArray, List.set_cons_zero, List.set_cons_succ]
        refine takeL 1 (v := ?_) rfl (by kernel_rfl) (by kernel_rfl) (by kernel_rfl) (fun _ _ _ h => h) (Or.inl ⟨by rfl, ?_⟩) hHeld ?_
        rotate_left 1
        · (intro w hSw; go_simp; try with_reducible rfl)
        try simp only [Act.put, List.setIfInBounds_toArray, List.set_cons_zero, List.set_cons_succ]
        refine takeL 2 (v := ?_) rfl (by kernel_rfl) (by kernel_rfl) (by kernel_rfl) (fun _ _ _ h => h) (Or.inl ⟨by rfl, ?_⟩) hHeld ?_
        rotate_left 1
        · (intro w hSw; go_simp; try with_reducible rfl)
        try simp only [Act.put, List.setIfInBounds_toArray, List.set_cons_zero, List.set_cons_succ]
        refine takeL 3 (v := ?_) rfl (by kernel_rfl) (by kernel_rfl) (by kernel_rfl) (fun _ _ _ h => h) (Or.inl ⟨by rfl, ?_⟩) hHeld ?_
        rotate_left 1
        · (intro w hSw; go_simp; try with_reducible rfl)
        try simp only [Act.put, List.setIfInBounds_toArray, List.set_cons_zero, List.set_cons_succ]
        refine takeL 4 rfl (by kernel_rfl) (by kernel_rfl) (by kernel_rfl) (fun _ _ _ h => h) (yieldsIf_load_mid (by rfl) _ _ rfl _ _ rfl _ _ (fun w hSw => hSw.1) Try.underlying24 rfl (by kernel_rfl)) hHeld ?_
        try simp only [Act.put, List.setIfInBounds_toArray, List.set_cons_zero, List.set_cons_succ]
        refine takeL 5 rfl (by kernel_rfl) (by kernel_rfl) (by kernel_rfl) (fun _ _ _ h => h) (yieldsIf_load_mid (by rfl) _ _ rfl _ _ rfl _ _ (fun w hSw => hSw.2) Try.underlying24 rfl (by kernel_rfl)) hHeld ?_
        try simp only [Act.put, List.setIfInBounds_toArray, List.set_cons_zero, List.set_cons_succ]
        refine takeL 6 (v := ?_) rfl (by kernel_rfl) (by kernel_rfl) (by kernel_rfl) (fun _ _ _ h => h) (Or.inl ⟨by rfl, ?_⟩) hHeld ?_
        rotate_left 1
        · (intro w hSw; go_simp; try with_reducible rfl)
        try simp only [Act.put, List.setIfInBounds_toArray, List.set_cons_zero, List.set_cons_succ]
        refine wpAnyH_done (by kernel_rfl) ?_ _
        refine NoPanic.normal ?_
        clear hHeld
        go_wp2
        go_ret
        exact ⟨rfl, by first | exact R0.out.2.2 | (rw [← hX]; exact R0.out.2.2)⟩
      · have HH : Bx True := Bx.mk trivial
        have hcc := HQ.out k hkz (by omega)
        have hkK : k + 1 ≤ K := by omega
        generalize (zs[k]).e.c = y at *
        obtain ⟨y0, y1, y2, y3⟩ := y
        simp only at R0
        have HM := Bx.mk (fun h => hcc h.symm : ¬ ((⟨i, r, x, q⟩ : Cl) = ⟨y0, y1, y2, y3⟩))
        clear HI hcc hg2 hg3
        go_upto_region 4 with fail
        refine wp_region_noPanic ?_
        refine wp_region_held_drew (S := fun W => W.rangeAt g (k * 8) [.int .i64 y0, .int .i64 y1, .int .i64 y2, .int .i64 y3] ∧ W.rangeAt X 0 [.int .i64 i, .int .i64 r, .int .i64 x, .int .i64 q]) (by kernel_rfl) (⟨R0.out.2.1, R0.out.1.1⟩) (fun hHeld => ?_)
        refine takeL 0 (v := ?_) rfl (by kernel_rfl) (by kernel_rfl) (by kernel_rfl) (fun _ _ _ h => h) (Or.inl ⟨by rfl, ?_⟩) hHeld ?_
        rotate_left 1
        · (intro w hSw; go_simp; try with_reducible rfl)
        try simp only [Act.put, List.setIfInBounds_toArray, List.set_cons_zero, List.set_cons_succ]
        refine takeL 1 (v := ?_) rfl (by kernel_rfl) (by kernel_rfl) (by kernel_rfl) (fun _ _ _ h => h) (Or.inl ⟨by rfl, ?_⟩) hHeld ?_
        rotate_left 1
        · (intro w hSw; go_simp; try with_reducible rfl)
        try simp only [Act.put, List.setIfInBounds_toArray, List.set_cons_zero, List.set_cons_succ]
        refine takeL 2 (v := ?_) rfl (by kernel_rfl) (by kernel_rfl) (by kernel_rfl) (fun _ _ _ h => h) (Or.inl ⟨by rfl, ?_⟩) hHeld ?_
        rotate_left 1
        · (intro w hSw; go_simp; try with_reducible rfl)
        try simp only [Act.put, List.setIfInBounds_toArray, List.set_cons_zero, List.set_cons_succ]
        refine takeL 3 (v := ?_) rfl (by kernel_rfl) (by kernel_rfl) (by kernel_rfl) (fun _ _ _ h => h) (Or.inl ⟨by rfl, ?_⟩) hHeld ?_
        rotate_left 1
        · (intro w hSw; go_simp; try with_reducible rfl)
        try simp only [Act.put, List.setIfInBounds_toArray, List.set_cons_zero, List.set_cons_succ]
        refine takeL 4 rfl (by kernel_rfl) (by kernel_rfl) (by kernel_rfl) (fun _ _ _ h => h) (yieldsIf_load_mid (by rfl) _ _ rfl _ _ rfl _ _ (fun w hSw => hSw.1) Try.underlying24 rfl (by kernel_rfl)) hHeld ?_
        try simp only [Act.put, List.setIfInBounds_toArray, List.set_cons_zero, List.set_cons_succ]
        refine takeL 5 rfl (by kernel_rfl) (by kernel_rfl) (by kernel_rfl) (fun _ _ _ h => h) (yieldsIf_load_mid (by rfl) _ _ rfl _ _ rfl _ _ (fun w hSw => hSw.2) Try.underlying24 rfl (by kernel_rfl)) hHeld ?_
        try simp only [Act.put, List.setIfInBounds_toArray, List.set_cons_zero, List.set_cons_succ]
        refine takeL 6 (v := ?_) rfl (by kernel_rfl) (by kernel_rfl) (by kernel_rfl) (fun _ _ _ h => h) (Or.inl ⟨by rfl, ?_⟩) hHeld ?_
        rotate_left 1
        · (intro w hSw; have hm := HM.out; go_simp; show _ = Result.ok (Next.value (Value.bool false)) w; (repeat' split) <;> simp_all)
        try simp only [Act.put, List.setIfInBounds_toArray, List.set_cons_zero, List.set_cons_succ]
        refine wpAnyH_done (by kernel_rfl) ?_ _
        refine NoPanic.normal ?_
        clear hHeld
        go_wp2
        go_roundw
        case rel => exact ⟨k + 1, by omega, by go_num, HH, R0.out.1, R0.out.2.2⟩
        case measure => simp [intOf]; omega
    · omega
end Go.Proofs.Ytdbdpehagkglfaa
namespace Go.Proofs.Ytdbdpehagkglfaa
open Go Go.RowKit
set_option maxRecDepth 100000 in
set_option maxHeartbeats 4000000 in
theorem rlook15_out (base : Nat) (mv : Value) (zs : List Zz) (c : Cl) (n : Nn) (w : World) (h : RowZ w base mv zs) (hl : zs.length ≤ 1000) (hn : ∀ z ∈ zs, z.e.c ≠ c) : Calls Try.prog 16 #[mv, clV c, nv n] w fun e w' => e = .returned (.int .i64 7) ∧ Below w.heap.size w w' := by
  have HF : Bx (∀ W, Below w.heap.size w W → Calls Try.prog 19 #[mv, clV c] W fun e w' => e = .returned (.int .i64 (-1)) ∧ Below W.heap.size W w') := Bx.mk fun W hB => rfind_out base mv zs c W (OwnG.later h hB) hl hn
  obtain ⟨a, cap, rfl, -, -⟩ := OwnG.form h
  generalize zs.length = zn at *
  clear h hn
  obtain ⟨i, r, x, q⟩ := c
  obtain ⟨nb, nc⟩ := n
  unfold clV nv at *
  simp only at HF ⊢
  have HB0 : Bx (Below w.heap.size w ((w.alloc (.cells #[.int .i64 i, .int .i64 r, .int .i64 x, .int .i64 q] 24)).alloc (.cells #[.int .i64 nb, .int .i64 nc] 26)) ∧ ((w.alloc (.cells #[.int .i64 i, .int .i64 r, .int .i64 x, .int .i64 q] 24)).alloc (.cells #[.int .i64 nb, .int .i64 nc] 26)).rangeAt (w.heap.size + 1) 0 [.int .i64 nb, .int .i64 nc]) := Bx.mk ⟨(below_a _).alloc (by simp) _, by
    have := nn_rng (w.alloc (.cells #[.int .i64 i, .int .i64 r, .int .i64 x, .int .i64 q] 24)) nb nc 26
    rw [World.size_alloc] at this
    exact this⟩
  go_enter Try.func16, Try.ntmps16
  go_wp2_with fail
  refine (HF.out _ HB0.out.1).mono ?_
  rintro e w1 ⟨rfl, hb⟩
  have R1 : Bx (Below w.heap.size w w1 ∧ w1.rangeAt (w.heap.size + 1) 0 [.int .i64 nb, .int .i64 nc]) := Bx.mk ⟨HB0.out.1.trans (hb.mono HB0.out.1.size), rng_later HB0.out.2 hb⟩
  clear hb HB0 HF
  go_wp2
  go_ret
  exact ⟨rfl, R1.out.1⟩
set_option maxRecDepth 100000 in
set_option maxHeartbeats 4000000 in
theorem rlook15_wanted (base : Nat) (mv : Value) (zs : List Zz) (c : Cl) (n : Nn) (w : World) (h : RowZ w base mv zs) (hl : zs.length ≤ 1000) (K : Nat) (hK : K < zs.length) (hc : (zs[K]).e.c = c) (hb : ∀ j (hj : j < zs.length), j < K → (zs[j]).e.c ≠ c) (hk : (zs[K]).e.k.isSome = false) : Calls Try.prog 16 #[mv, clV c, nv n] w fun e w' => e = .returned (.int .i64 11) ∧ Below w.heap.size w w' := by
  have HF : Bx (∀ W, Below w.heap.size w W → Calls Try.prog 19 #[mv, clV c] W fun e w' => e = .returned (.int .i64 (K : Int)) ∧ Below W.heap.size W w') := Bx.mk fun W hB => rfind_at base mv zs c W (OwnG.later h hB) hl K hK hc hb
  obtain ⟨g, cap, hmv⟩ := OwnG.start h (by omega)
  subst hmv
  have HC := Bx.mk (fun W (hB : Below w.heap.size w W) => rngZ ((OwnG.later h hB).at_ encZ_len K hK))
  rw [hk] at HC
  obtain ⟨zn, hzn⟩ : ∃ zn, zs.length = zn := ⟨_, rfl⟩
  have hKz : (K : Int) < (zn : Int) := by omega
  have hK0 : (0 : Int) ≤ (K : Int) := by omega
  have hKn : ¬ (K : Int) < 0 := by omega
  rw [hzn] at HF ⊢
  clear h hc hb hk hzn
  obtain ⟨i, r, x, q⟩ := c
  obtain ⟨nb, nc⟩ := n
  unfold clV nv at *
  simp only at HF ⊢
  have HB0 : Bx (Below w.heap.size w ((w.alloc (.cells #[.int .i64 i, .int .i64 r, .int .i64 x, .int .i64 q] 24)).alloc (.cells #[.int .i64 nb, .int .i64 nc] 26)) ∧ ((w.alloc (.cells #[.int .i64 i, .int .i64 r, .int .i64 x, .int .i64 q] 24)).alloc (.cells #[.int .i64 nb, .int .i64 nc] 26)).rangeAt (w.heap.size + 1) 0 [.int .i64 nb, .int .i64 nc]) := Bx.mk ⟨(below_a _).alloc (by simp) _, by
    have := nn_rng (w.alloc (.cells #[.int .i64 i, .int .i64 r, .int .i64 x, .int .i64 q] 24)) nb nc 26
    rw [World.size_alloc] at this
    exact this⟩
  go_enter Try.func16, Try.ntmps16
  go_wp2_with fail
  refine (HF.out _ HB0.out.1).mono ?_
  rintro e w1 ⟨rfl, hb⟩
  have R1 : Bx (Below w.heap.size w w1 ∧ w1.rangeAt (w.heap.size + 1) 0 [.int .i64 nb, .int .i64 nc]) := Bx.mk ⟨HB0.out.1.trans (hb.mono HB0.out.1.size), rng_later HB0.out.2 hb⟩
  clear hb HB0 HF
  obtain ⟨q4, -, -, -⟩ := HC.out _ R1.out.1
  go_wp2
  go_ret
  exact ⟨rfl, R1.out.1⟩
set_option maxRecDepth 100000 in
set_option maxHeartbeats 4000000 in
theorem rlook15_known (base : Nat) (mv : Value) (zs : List Zz) (c : Cl) (n : Nn) (w : World) (h : RowZ w base mv zs) (hl : zs.length ≤ 1000) (K : Nat) (hK : K < zs.length) (hc : (zs[K]).e.c = c) (hb : ∀ j (hj : j < zs.length), j < K → (zs[j]).e.c ≠ c) (hk : (zs[K]).e.k.isSome = true) (hr : NnsR w (zs[K]).tv (zs[K]).ns) (hnl : (zs[K]).ns.length ≤ 1000) (hok : ∀ x ∈ (zs[K]).ns, okN x = true) (hfn : n.fit) : Calls Try.prog 16 #[mv, clV c, nv n] w fun e w' => e = .returned (.int .i64 (dlookN (zs[K]).ns n)) ∧ Below w.heap.size w w' := by
  have HF : Bx (∀ W, Below w.heap.size w W → Calls Try.prog 19 #[mv, clV c] W fun e w' => e = .returned (.int .i64 (K : Int)) ∧ Below W.heap.size W w') := Bx.mk fun W hB => rfind_at base mv zs c W (OwnG.later h hB) hl K hK hc hb
  obtain ⟨g, cap, hmv⟩ := OwnG.start h (by omega)
  subst hmv
  have HC := Bx.mk (fun W (hB : Below w.heap.size w W) => rngZ ((OwnG.later h hB).at_ encZ_len K hK))
  rw [hk] at HC
  have HR := Bx.mk (fun W (hB : Below w.heap.size w W) => rlook12_any (zs[K]).ns (zs[K]).tv n W (hr.later hB) hnl hok hfn)
  obtain ⟨ta, tc, htv⟩ := hr.form
  obtain ⟨tn, htn⟩ : ∃ tn, (zs[K]).ns.length = tn := ⟨_, rfl⟩
  rw [htn] at htv
  rw [htv] at HC HR
  obtain ⟨D, hD⟩ : ∃ D, dlookN (zs[K]).ns n = D := ⟨_, rfl⟩
  rw [hD] at HR ⊢
  generalize (zs[K]).kv = kvv at *
  clear hr hnl hok hfn htn htv hD
  obtain ⟨zn, hzn⟩ : ∃ zn, zs.length = zn := ⟨_, rfl⟩
  have hKz : (K : Int) < (zn : Int) := by omega
  have hK0 : (0 : Int) ≤ (K : Int) := by omega
  have hKn : ¬ (K : Int) < 0 := by omega
  rw [hzn] at HF ⊢
  clear h hc hb hk hzn
  obtain ⟨i, r, x, q⟩ := c
  obtain ⟨nb, nc⟩ := n
  unfold clV nv at *
  simp only at HF HR ⊢
  have HB0 : Bx (Below w.heap.size w ((w.alloc (.cells #[.int .i64 i, .int .i64 r, .int .i64 x, .int .i64 q] 24)).alloc (.cells #[.int .i64 nb, .int .i64 nc] 26)) ∧ ((w.alloc (.cells #[.int .i64 i, .int .i64 r, .int .i64 x, .int .i64 q] 24)).alloc (.cells #[.int .i64 nb, .int .i64 nc] 26)).rangeAt (w.heap.size + 1) 0 [.int .i64 nb, .int .i64 nc]) := Bx.mk ⟨(below_a _).alloc (by simp) _, by
    have := nn_rng (w.alloc (.cells #[.int .i64 i, .int .i64 r, .int .i64 x, .int .i64 q] 24)) nb nc 26
    rw [World.size_alloc] at this
    exact this⟩
  go_enter Try.func16, Try.ntmps16
  go_wp2_with fail
  refine (HF.out _ HB0.out.1).mono ?_
  rintro e w1 ⟨rfl, hb⟩
  have R1 : Bx (Below w.heap.size w w1 ∧ w1.rangeAt (w.heap.size + 1) 0 [.int .i64 nb, .int .i64 nc]) := Bx.mk ⟨HB0.out.1.trans (hb.mono HB0.out.1.size), rng_later HB0.out.2 hb⟩
  clear hb HB0 HF
  obtain ⟨q4, -, -, q7⟩ := HC.out _ R1.out.1
  go_upto_region 6 with fail
  have R2 : Bx (Below w.heap.size w w1.drew ∧ w1.drew.rangeAt (w.heap.size + 1) 0 [.int .i64 nb, .int .i64 nc] ∧ w1.drew.cell? ⟨g, K * 8 + 7, none⟩ = some (.slice ta tn tc)) := Bx.mk ⟨R1.out.1.drew, R1.out.2, q7⟩
  clear R1 q4 q7 HC
  refine wp_region_noPanic ?_
  refine wp_region_held_drew (S := fun W => W.rangeAt (w.heap.size + 1) 0 [.int .i64 nb, .int .i64 nc] ∧ W.cell? ⟨g, K * 8 + 7, none⟩ = some (.slice ta tn tc)) (by kernel_rfl) (⟨R2.out.2.1, R2.out.2.2⟩) (fun hHeld => ?_)
  generalize w1.drew = W0 at *
  refine takeL 0 (v := ?_) rfl (by kernel_rfl) (by kernel_rfl) (by kernel_rfl) (fun _ _ _ h => h) (Or.inl ⟨by rfl, ?_⟩) hHeld ?_
  rotate_left 1
  · (intro w hSw; go_simp; try with_reducible rfl)
  try simp only [Act.put, List.setIfInBounds_toArray, List.set_cons_zero, List.set_cons_succ]
  refine takeL 1 (v := ?_) rfl (by kernel_rfl) (by kernel_rfl) (by kernel_rfl) (fun _ _ _ h => h) (Or.inl ⟨by rfl, ?_⟩) hHeld ?_
  rotate_left 1
  · (intro w hSw; go_simp; try with_reducible rfl)
  try simp only [Act.put, List.setIfInBounds_toArray, List.set_cons_zero, List.set_cons_succ]
  refine takeL 2 (v := ?_) rfl (by kernel_rfl) (by kernel_rfl) (by kernel_rfl) (fun _ _ _ h => h) (Or.inl ⟨by rfl, ?_⟩) hHeld ?_
  rotate_left 1
  · (intro w hSw; go_simp; try with_reducible rfl)
  try simp only [Act.put, List.setIfInBounds_toArray, List.set_cons_zero, List.set_cons_succ]
  refine takeL 3 (v := ?_) rfl (by kernel_rfl) (by kernel_rfl) (by kernel_rfl) (fun _ _ _ h => h) (Or.inl ⟨by rfl, ?_⟩) hHeld ?_
  rotate_left 1
  · (intro w hSw; go_simp; try with_reducible rfl)
  try simp only [Act.put, List.setIfInBounds_toArray, List.set_cons_zero, List.set_cons_succ]
  refine takeL 4 (v := ?_) rfl (by kernel_rfl) (by kernel_rfl) (by kernel_rfl) (fun _ _ _ h => h) (Or.inl ⟨by rfl, ?_⟩) hHeld ?_
  rotate_left 1
  · (intro w hSw; have h1 := hSw.2; go_simp; try with_reducible rfl)
  try simp only [Act.put, List.setIfInBounds_toArray, List.set_cons_zero, List.set_cons_succ]
  refine takeL 5 rfl (by kernel_rfl) (by kernel_rfl) (by kernel_rfl) (fun _ _ _ h => h) (yieldsIf_load_mid (by rfl) _ _ rfl _ _ rfl _ _ (fun w hSw => hSw.1) Try.underlying26 rfl (by kernel_rfl)) hHeld ?_
  try simp only [Act.put, List.setIfInBounds_toArray, List.set_cons_zero, List.set_cons_succ]
  refine stepL 6 (by kernel_rfl) rfl (fun K' hK => ?_)
  go_simp
  refine (HR.out _ R2.out.1).mono ?_
  rintro e W1 ⟨rfl, hb⟩
  show K' _ _
  have R3 := Bx.mk (R2.out.1.trans (hb.mono R2.out.1.size))
  refine hK.out _ _ ⟨rng_later R2.out.2.1 hb, (hb.cell (World.block_lt_of_cell? _ _ R2.out.2.2)).trans R2.out.2.2⟩ (fun hHeld => ?_)
  clear hK K' hb R2
  try simp only [Act.put, List.setIfInBounds_toArray, List.set_cons_zero, List.set_cons_succ]
  refine takeL 7 (v := ?_) rfl (by kernel_rfl) (by kernel_rfl) (by kernel_rfl) (fun _ _ _ h => h) (Or.inl ⟨by rfl, ?_⟩) hHeld ?_
  rotate_left 1
  · (intro w hSw; go_simp; try with_reducible rfl)
  try simp only [Act.put, List.setIfInBounds_toArray, List.set_cons_zero, List.set_cons_succ]
  refine wpAnyH_done (by kernel_rfl) ?_ _
  refine NoPanic.normal ?_
  clear hHeld
  go_wp2
  go_ret
  exact ⟨rfl, R3.out⟩
end Go.Proofs.Ytdbdpehagkglfaa
