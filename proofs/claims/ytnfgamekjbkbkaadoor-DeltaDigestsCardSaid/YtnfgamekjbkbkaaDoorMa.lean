/-
  A row of ints of this call's own whose spare cells are ints too: so what is read from bytes stays, wherever those lie.
  Revocations: a log that is read.
  Revocations: a delta's size; what stays while a delta is read.
-/
import Derived.Test.YtnfgamekjbkbkaaDoorEo
import Derived.Test.YtnfgamekjbkbkaaDoorIp
import Derived.Lib.AppendZeros
namespace Go.Proofs.YtnfgamekjbkbkaaDoor
open Go Go.RowKit
/-- An own row: its block holds ints alone, the spare cells too. -/
def OwnZ (w : World) (base : Nat) (v : Value) (l : List Int) : Prop :=
  (v = .slice none 0 0 ∧ l = []) ∨ ∃ D cap zs, v = .slice (some ⟨D, 0, none⟩) l.length cap ∧ base ≤ D ∧ cap ≤ maxLen ∧ l.length + zs.length = cap ∧ w.heap[D]? = some (.cells (i64s (l ++ zs)).toArray 3 (0, 0))
theorem OwnZ.nil (w : World) (base : Nat) : OwnZ w base (.slice none 0 0) [] := .inl ⟨rfl, rfl⟩
theorem OwnZ.own {w : World} {base : Nat} {v : Value} {l : List Int} (h : OwnZ w base v l) : OwnI w base v l := by
  rcases h with ⟨rfl, rfl⟩ | ⟨D, cap, zs, rfl, hb, hm, hc, hr⟩
  · exact OwnI.nil w base
  · refine ⟨by rw [i64s_len]; omega, .inr ⟨D, cap, _, rfl, hb, hr, by omega, hm, ?_, ?_⟩⟩
    · simp [i64s]; omega
    · simp [i64s]
theorem i64s_no8 (l : List Int) (i : Nat) (x : Int) : (i64s l).toArray[i]? ≠ some (.int .u8 x) := by
  intro h
  simp [i64s] at h
theorem OwnZ.lt {w : World} {base : Nat} {v : Value} {l : List Int} (h : OwnZ w base v l) : ∀ g, v.ownBlock = some g → g < w.heap.size ∧ base ≤ g := h.own.lt
theorem OwnZ.later {w w1 : World} {base : Nat} {v : Value} {l : List Int} (h : OwnZ w base v l) (hb : ∀ g, v.ownBlock = some g → w1.heap[g]? = w.heap[g]?) : OwnZ w1 base v l := by
  rcases h with h | ⟨D, cap, zs, rfl, hb', hm, hc, hr⟩
  · exact .inl h
  · exact .inr ⟨D, cap, zs, rfl, hb', hm, hc, by rw [hb D rfl]; exact hr⟩
/-- A reader stays where such a row grows. -/
theorem IsR.asideZ {w w1 : World} {q base : Nat} {v : Value} {ns : List Int} {l : List UInt8} {e : Int} (h : IsR w q l e) (hz : OwnZ w base v ns) (hq : q < base) (hg : w.grownBy w1 v.ownBlock) : IsR w1 q l e := by
  rcases hz with ⟨rfl, rfl⟩ | ⟨D, cap, zs, rfl, hb, hm, hc, hr⟩
  · exact h.later ⟨hg.os, hg.tape, hg.output, hg.size, fun k hk => hg.block k hk (by simp [Value.ownBlock])⟩
  · exact h.asideA hr (i64s_no8 _) hg (by omega)
set_option maxRecDepth 100000 in
theorem run_apZ (w : World) (base : Nat) (v : Value) (l : List Int) (hown : OwnZ w base v l) (g : Nat) (n : Int) (hx : w.cell? ⟨g, 0, none⟩ = some (.int .i64 n)) (hn : l.length ≤ 10000) (hbase : base ≤ w.heap.size) (ty : TypeId) :
    ∃ v' w', (Builtin.append_ #[23, 23] ty #[v, .slice (some ⟨g, 0, none⟩) 1 1]).run Tryd.prog w = .ok v' w' ∧ OwnZ w' base v' (l ++ [n]) ∧ w.grownBy w' v.ownBlock := by
  have hi : Tryd.prog.info? 3 = some ((Tryd.prog.info? 3).getD default) := by kernel_rfl
  have hz : ((Tryd.prog.info? 3).getD default).zero = some (.int .i64 0) := by kernel_rfl
  have hsz : ((Tryd.prog.info? 3).getD default).size = 1 := by kernel_rfl
  have hby : ((Tryd.prog.info? 3).getD default).bytes = 8 := by kernel_rfl
  generalize (Tryd.prog.info? 3).getD default = inf at hi hz hsz hby
  have hnews : ∀ j u, [Value.int .i64 n][j]? = some u → w.cell? ((⟨g, 0, none⟩ : Addr).add j) = some u := by
    intro j u hj
    match j, hj with
    | 0, hj =>
      simp at hj
      subst hj
      simpa [Addr.add] using hx
  have hzc : ∀ k, Builtin.zeroCells (Value.int .i64 0).cells k = (i64s (List.replicate k 0)).toArray := by
    intro k
    apply Array.ext'
    rw [Builtin.zeroCells]
    simp only [i64s, Value.cells]
    refine List.ext_getElem (by simp) (fun i h1 h2 => ?_)
    simp [Nat.mod_one]
  have hO : w.ownsRow base 3 1 v l.length (i64s l) := hown.own
  rcases hown with ⟨rfl, rfl⟩ | ⟨D, cap, zs, rfl, hb, hm, hc, hr⟩
  · have hrun := run_append_nil (P := Tryd.prog) (w := w) 23 ty 3 inf _ Tryd.underlying23 hi hz ⟨g, 0, none⟩ 1 1 [.int .i64 n] (by rw [hsz]; rfl) hnews (by omega) (by omega) (by rw [hby]; omega)
    have hge := grownCap_ge w 1 0 3
    refine ⟨_, _, hrun, .inr ⟨w.heap.size, grownCap w 1 0 3, List.replicate (grownCap w 1 0 3 - 1) 0, rfl, hbase, grownCap_le_maxLen _ _ _ _ (by simp only [maxLen]; omega), by simp; omega, ?_⟩, ⟨rfl, rfl, rfl, by simp, fun k hk _ => heap_alloc_old w.drew _ hk⟩⟩
    rw [hzc]
    refine (heap_alloc_new w.drew _).trans ?_
    simp [i64s]
  · by_cases hroom : l.length + 1 ≤ cap
    · obtain ⟨z, zs, rfl⟩ : ∃ z zs', zs = z :: zs' := by
        cases zs with
        | nil => simp at hc; omega
        | cons z zs' => exact ⟨z, zs', rfl⟩
      have hrun := run_append_room (P := Tryd.prog) w 23 ty 3 inf Tryd.underlying23 hi D l.length cap _ hr ⟨g, 0, none⟩ 1 1 [.int .i64 n] (by rw [hsz]; rfl) hnews (by simp [Value.oneCell']) hroom (by rw [hsz]; simp [i64s])
      refine ⟨_, _, hrun, .inr ⟨D, cap, zs, by simp, hb, hm, by simp at hc ⊢; omega, ?_⟩, ⟨rfl, rfl, rfl, by simp, fun k hk hne => setRow_other w D k _ (fun e => hne (by simp [Value.ownBlock, e]))⟩⟩
      refine (setRow_heap w D _ _ 3 _ hr).trans ?_
      rw [hsz]
      simp [i64s, List.drop_append]
    · have h0 : zs = [] := List.eq_nil_of_length_eq_zero (by omega)
      subst h0
      have hcap : l.length = cap := by simpa using hc
      subst hcap
      have holds := hO.cells (g := D) rfl
      have hrun := run_append_grow (P := Tryd.prog) (w := w) 23 ty 3 inf _ Tryd.underlying23 hi hz ⟨D, 0, none⟩ l.length l.length (i64s l) (by rw [i64s_len, hsz]; omega) holds ⟨g, 0, none⟩ 1 1 [.int .i64 n] (by rw [hsz]; rfl) hnews (by omega) (by omega) (growslice_fits (by omega) (by rw [hby]; omega))
      have hge := grownCap_ge w (l.length + 1) l.length 3
      refine ⟨_, _, hrun, .inr ⟨w.heap.size, grownCap w (l.length + 1) l.length 3, List.replicate (grownCap w (l.length + 1) l.length 3 - (l.length + 1)) 0, by simp, hbase, grownCap_le_maxLen _ _ _ _ (by simp only [maxLen]; omega), by simp; omega, ?_⟩, ⟨rfl, rfl, rfl, by simp, fun k hk _ => heap_alloc_old w.drew _ hk⟩⟩
      rw [hzc]
      refine (heap_alloc_new w.drew _).trans ?_
      simp [i64s]
/-- At the list of a plain region's operations. -/
theorem wpList_apZ {w : World} {ops : Array Oper} {rest : List Oper} {o : Oper} {a : Act} {Q : Exit → Act → World → Prop} (hgd : o.guard = none) (s x : Operand)
    (ho : o.op = .call { callee := .builtin .append, args := #[s, x], argTypes := #[23, 23] }) (base : Nat) (v : Value) (l : List Int) (hs : a.eval s = v) (hown : OwnZ w base v l) (g : Nat) (n : Int) (hx : a.eval x = .slice (some ⟨g, 0, none⟩) 1 1) (hb : w.cell? ⟨g, 0, none⟩ = some (.int .i64 n))
    (hn : l.length ≤ 10000) (hbase : base ≤ w.heap.size)
    (h : ∀ v' w', OwnZ w' base v' (l ++ [n]) → w.grownBy w' v.ownBlock → wpList Tryd.prog ops Q rest (a.put o.dst v') w') : wpList Tryd.prog ops Q (o :: rest) a w := by
  refine wpList_plain hgd fun K hK => ?_
  obtain ⟨v', w', hrun, h1, h2⟩ := run_apZ w base v l hown g n hb hn hbase o.type
  unfold Oper.wp
  simp [execOp, ho, resolve, invoke, builtin, hs, hx, hrun, Result.andThen]
  exact hK _ _ (h v' w' h1 h2)
end Go.Proofs.YtnfgamekjbkbkaaDoor
namespace Go.Proofs.YtnfgamekjbkbkaaDoor
open Go Go.RowKit
theorem numR_two (p : List UInt8 × Int) : 0 ≤ numR p 1 ∧ numR p 1 ≤ 65535 := by
  obtain ⟨l, e⟩ := p
  by_cases he : e = 0
  · subst he
    by_cases hl : wid 1 ≤ l.length
    · rw [numR_long l 1 (by omega) hl]
      have := valN_lt (l.take (wid 1))
      have hw : wid 1 = 2 := by decide
      rw [hw] at this ⊢
      have h2 : (l.take 2).length ≤ 2 := by simp; omega
      have : valN (l.take 2) < 256 ^ 2 := Nat.lt_of_lt_of_le this (Nat.pow_le_pow_right (by omega) h2)
      omega
    · unfold numR
      rw [getR_short l 1 (by omega) (by omega)]
      decide
  · unfold numR getR
    rw [if_pos he]
    exact ⟨Int.le_refl 0, by show (0 : Int) ≤ 65535; omega⟩
theorem stepR_two (p : List UInt8 × Int) : (p.2 = 0 → (stepR p 1).2 = 0 → (stepR p 1).1.length + 2 = p.1.length) ∧ (stepR p 1).1.length ≤ p.1.length := by
  refine ⟨fun h0 h1 => ?_, stepR_len p 1⟩
  obtain ⟨l, e⟩ := p
  simp only at h0
  subst h0
  have hw : wid 1 = 2 := by decide
  by_cases hl : wid 1 ≤ l.length
  · rw [stepR_long l 1 (by omega) hl]
    simp
    omega
  · rw [stepR_short l 1 (by omega) (by omega)] at h1
    simp at h1
/-- Numbers read one behind the other, as long as there is no error. -/
def takeR : Nat → List UInt8 × Int → List Int → List Int × (List UInt8 × Int)
  | 0, p, l => (l, p)
  | m + 1, p, l => if p.2 = 0 then takeR m (stepR p 1) (l ++ [numR p 1]) else (l, p)
def logR (p : List UInt8 × Int) : List Int × (List UInt8 × Int) := takeR (numR p 1).toNat (stepR p 1) []
structure GL (w : World) (q B n0 : Nat) (fin : List Int × (List UInt8 × Int)) (m : Nat) (l : List Int) (p : List UInt8 × Int) (v : Value) (W : World) : Prop where
  rd : IsR W q p.1 p.2
  ow : OwnZ W B v l
  gr : w.grownBy W (some q)
  bn : 2 * l.length + p.1.length ≤ n0 + 2
  bz : p.2 = 0 → 2 * l.length + p.1.length ≤ n0
  tie : takeR m p l = fin
theorem gr_own {w W W2 : World} {q B : Nat} {v : Value} {l : List Int} (h : w.grownBy W (some q)) (hz : OwnZ W B v l) (hB : w.heap.size ≤ B) (hg : W.grownBy W2 v.ownBlock) : w.grownBy W2 (some q) := by
  rcases hz with ⟨rfl, rfl⟩ | ⟨D, cap, zs, rfl, hb, -⟩
  · exact kb_trans h ⟨hg.os, hg.tape, hg.output, hg.size, fun k hk _ => hg.block k hk (by simp [Value.ownBlock])⟩
  · exact kb_new h hg (Nat.le_trans hB hb)
set_option maxRecDepth 100000 in
theorem getLog_any (q : Nat) (p : List UInt8 × Int) (w : World) (h : IsR w q p.1 p.2) (hl : p.1.length ≤ 5000) :
    Calls Tryd.prog 52 #[.pointer (some ⟨q, 0, none⟩)] w fun e w' => ∃ v, e = .returned v ∧ OwnZ w' w.heap.size v (logR p).1 ∧ IsR w' q (logR p).2.1 (logR p).2.2 ∧ w.grownBy w' (some q) := by
  obtain ⟨B, hB⟩ : ∃ B, w.heap.size = B := ⟨_, rfl⟩
  have hq : q < B := by rw [← hB]; exact h.lt
  obtain ⟨fin, hfin⟩ : ∃ fin, logR p = fin := ⟨_, rfl⟩
  rw [hB, hfin]
  obtain ⟨n0, hn0⟩ : ∃ n0, p.1.length = n0 := ⟨_, rfl⟩
  have HN := Bx.mk (rnum_any q 1 p.1 p.2 w h hl (by omega))
  have H0 : Bx (w.heap.size = B ∧ q < B ∧ n0 ≤ 5000 ∧ takeR (numR p 1).toNat (stepR p 1) [] = fin ∧ (stepR p 1).1.length ≤ n0) := ⟨⟨hB, hq, by omega, hfin, by rw [← hn0]; exact stepR_len p 1⟩⟩
  obtain ⟨m0, hm0⟩ : ∃ m0 : Nat, numR p 1 = (m0 : Int) := ⟨(numR p 1).toNat, by have := (numR_two p).1; omega⟩
  have hm1 : (m0 : Int) ≤ 65535 := by have := (numR_two p).2; omega
  rw [show (getR p.1 p.2 1).1.n = numR p 1 from rfl, show (getR p.1 p.2 1).2 = stepR p 1 from rfl, hm0] at HN
  rw [hm0, Int.toNat_natCast] at H0
  clear h hl hfin hn0 hm0 hB hq
  generalize stepR p 1 = p1 at *
  go_enter Tryd.func52, Tryd.ntmps52
  go_wp2_with fail
  refine HN.out.mono ?_
  rintro e w1 ⟨rfl, hr1, hg1⟩
  have HS : Bx (GL w q B n0 fin m0 [] p1 (.slice none 0 0) w1) := ⟨⟨hr1, OwnZ.nil _ _, hg1, by have := H0.out.2.2.2.2; simp; omega, fun _ => by have := H0.out.2.2.2.2; simpa using this, H0.out.2.2.2.1⟩⟩
  have H1 : Bx (w.heap.size = B ∧ q < B ∧ n0 ≤ 5000) := ⟨⟨H0.out.1, H0.out.2.1, H0.out.2.2.1⟩⟩
  clear hr1 hg1 H0 HN
  go_wp2_with fail
  go_loopw [4, 3] (fun i v wr => ∃ m : Nat, ∃ l p, m ≤ 65535 ∧ i = .int .i64 (m : Int) ∧ Bx (GL w q B n0 fin m l p v wr)) (fun i _ _ => (intOf i).toNat)
  case atStart => exact ⟨m0, [], p1, by omega, rfl, HS⟩
  case round =>
    clear HS
    obtain ⟨m, l, p, hm, rfl, HI⟩ := hrel
    obtain ⟨a3, c3, hv3⟩ := HI.out.ow.own.form
    subst hv3
    rcases m with _ | k
    · have ht : (l, p) = fin := HI.out.tie
      go_wp2
      go_ret
      refine ⟨_, rfl, ?_⟩
      rw [← ht]
      exact ⟨HI.out.ow, HI.out.rd, HI.out.gr⟩
    · have hk : (0 : Int) < ((k + 1 : Nat) : Int) := by omega
      have hk2 : ((k + 1 : Nat) : Int) ≤ 65535 := by omega
      have hwr : IntKind.i64.wrap (((k + 1 : Nat) : Int) - 1) = (k : Int) := by rw [IntKind.wrap_i64]; omega
      have HE := Bx.mk (rerr_any q p.1 p.2 wr HI.out.rd)
      obtain ⟨er, her⟩ : ∃ er, p.2 = er := ⟨_, rfl⟩
      rw [her] at HE
      have HM := Bx.mk hm
      obtain ⟨kk, hkk⟩ : ∃ kk : Int, ((k + 1 : Nat) : Int) = kk := ⟨_, rfl⟩
      have HKK := Bx.mk hkk
      rw [hkk] at hk hk2 hwr ⊢
      clear hkk hm
      by_cases h0 : er = 0
      · have ht : takeR k (stepR p 1) (l ++ [numR p 1]) = fin := by
          have := HI.out.tie
          unfold takeR at this
          rwa [if_pos (by omega)] at this
        subst h0
        have HT := Bx.mk ht
        have HER := Bx.mk her
        have HRN := Bx.mk (rnum_any q 1 p.1 p.2 wr HI.out.rd (by have := HI.out.bn; have := H1.out.2.2; have := HI.out.bz her; omega) (by omega))
        rw [show (getR p.1 p.2 1).1.n = numR p 1 from rfl, show (getR p.1 p.2 1).2 = stepR p 1 from rfl] at HRN
        have HS2 := Bx.mk (stepR_two p)
        have HBZ := Bx.mk (HI.out.bz her)
        clear her ht
        obtain ⟨n, hn⟩ : ∃ n, numR p 1 = n := ⟨_, rfl⟩
        rw [hn] at HRN HT
        clear hn
        go_wp2_with fail
        refine HE.out.mono ?_
        rintro e w2 ⟨rfl, hw2⟩
        rw [hw2]
        clear hw2 w2 HE
        go_wp2_with fail
        refine HRN.out.mono ?_
        rintro e w2 ⟨rfl, hr2, hg2⟩
        have HA : Bx (OwnZ (w2.alloc (.cells #[.int .i64 n] 3)) B (.slice a3 l.length c3) l ∧ (w2.alloc (.cells #[.int .i64 n] 3)).cell? ⟨w2.heap.size, 0, none⟩ = some (.int .i64 n) ∧ IsR (w2.alloc (.cells #[.int .i64 n] 3)) q (stepR p 1).1 (stepR p 1).2 ∧ w.grownBy (w2.alloc (.cells #[.int .i64 n] 3)) (some q) ∧ B ≤ (w2.alloc (.cells #[.int .i64 n] 3)).heap.size ∧ l.length ≤ 10000) := by
          have ho : OwnZ w2 B (.slice a3 l.length c3) l := HI.out.ow.later (fun g hg => by
            have h := HI.out.ow.lt g hg
            exact hg2.block g h.1 (fun e => by injection e with e; have := H1.out.2.1; omega))
          have hg3 := kb_trans HI.out.gr hg2
          refine ⟨⟨ho.later (fun g hg => heap_alloc_old _ _ (ho.lt g hg).1), by simp, hr2.later (below_a _), kb_trans hg3 (kb_below _ (below_a _)), ?_, ?_⟩⟩
          · have := hg3.size
            have := H1.out.1
            simp
            omega
          · have := HBZ.out
            have := H1.out.2.2
            omega
        clear hr2 hg2 HRN
        go_wp2_with (refine wpList_apZ rfl _ _ rfl B _ l rfl HA.out.1 _ n rfl HA.out.2.1 HA.out.2.2.2.2.2 HA.out.2.2.2.2.1 ?_; intro v' w' ho' hg')
        go_roundw
        case rel =>
          refine ⟨k, l ++ [n], stepR p 1, by have := HM.out; omega, ?_, ⟨HA.out.2.2.1.asideZ HA.out.1 H1.out.2.1 hg', ho', gr_own HA.out.2.2.2.1 HA.out.1 (by rw [H1.out.1]; exact Nat.le_refl _) hg', ?_, ?_, HT.out⟩⟩
          · first | rw [hwr] | rfl
          · have := HBZ.out
            have := HS2.out.2
            simp
            omega
          · intro hz
            have := HBZ.out
            have := HS2.out.1 HER.out hz
            simp
            omega
        case measure =>
          have := HKK.out
          simp [intOf]
          omega
      · have ht : (l, p) = fin := by
          have := HI.out.tie
          unfold takeR at this
          rwa [if_neg (by omega)] at this
        clear her
        go_wp2_with fail
        refine HE.out.mono ?_
        rintro e w2 ⟨rfl, hw2⟩
        rw [hw2]
        clear hw2 w2 HE
        go_wp2
        go_ret
        refine ⟨_, rfl, ?_⟩
        rw [← ht]
        exact ⟨HI.out.ow, HI.out.rd, HI.out.gr⟩
end Go.Proofs.YtnfgamekjbkbkaaDoor
namespace Go.Proofs.YtnfgamekjbkbkaaDoor
open Go Go.RowKit
set_option maxRecDepth 100000 in
theorem size_any8 (v : V4) (x : VV) (l : L4) (w : World) (hx : Rows4 w x l) (hm : Most l 1000) : Calls Tryd.prog 47 #[.agg (dC v x)] w fun e w' => e = .returned (.int .i64 ((16 + 2 * (l.a.length + l.b.length + l.c.length + l.d.length) : Nat) : Int)) ∧ Below w.heap.size w w' := by
  obtain ⟨E, hE⟩ : ∃ E, w.heap.size = E := ⟨_, rfl⟩
  obtain ⟨p1, q1, t1, s1, a1, b1, c1, d1, rfl⟩ := hx.forms
  have m1 : (l.a.length : Int) ≤ 1000 := by have := hm.a; omega
  have m2 : (l.b.length : Int) ≤ 1000 := by have := hm.b; omega
  have m3 : (l.c.length : Int) ≤ 1000 := by have := hm.c; omega
  have m4 : (l.d.length : Int) ≤ 1000 := by have := hm.d; omega
  have z1 : (0 : Int) ≤ (l.a.length : Int) := by omega
  have z2 : (0 : Int) ≤ (l.b.length : Int) := by omega
  have z3 : (0 : Int) ≤ (l.c.length : Int) := by omega
  have z4 : (0 : Int) ≤ (l.d.length : Int) := by omega
  obtain ⟨m, hmm⟩ : ∃ m, 16 + 2 * (l.a.length + l.b.length + l.c.length + l.d.length) = m := ⟨_, rfl⟩
  rw [hmm]
  have HM := Bx.mk hmm
  clear hx hm hmm
  generalize l.a.length = n1 at *
  generalize l.b.length = n2 at *
  generalize l.c.length = n3 at *
  generalize l.d.length = n4 at *
  unfold dC
  simp only
  have HB := Bx.mk (below_a (W := w) (.cells #[.int .i64 v.a, .int .i64 v.b, .int .i64 v.c, .int .i64 v.d, .slice p1 n1 a1, .slice q1 n2 b1, .slice t1 n3 c1, .slice s1 n4 d1] 30))
  have hr : (w.alloc (.cells #[.int .i64 v.a, .int .i64 v.b, .int .i64 v.c, .int .i64 v.d, .slice p1 n1 a1, .slice q1 n2 b1, .slice t1 n3 c1, .slice s1 n4 d1] 30)).heap[E]? = some (.cells #[.int .i64 v.a, .int .i64 v.b, .int .i64 v.c, .int .i64 v.d, .slice p1 n1 a1, .slice q1 n2 b1, .slice t1 n3 c1, .slice s1 n4 d1] 30 (0, 0)) := by
    subst hE
    exact hnew _ _ _ rfl
  have hc : ∀ i u, (#[.int .i64 v.a, .int .i64 v.b, .int .i64 v.c, .int .i64 v.d, .slice p1 n1 a1, .slice q1 n2 b1, .slice t1 n3 c1, .slice s1 n4 d1] : Array Value)[i]? = some u → (w.alloc (.cells #[.int .i64 v.a, .int .i64 v.b, .int .i64 v.c, .int .i64 v.d, .slice p1 n1 a1, .slice q1 n2 b1, .slice t1 n3 c1, .slice s1 n4 d1] 30)).cell? ⟨E, i, none⟩ = some u := fun i u h => by
    rw [cell_of_row _ _ _ _ _ _ hr]
    exact h
  have k4 := hc 4 _ rfl
  have k5 := hc 5 _ rfl
  have k6 := hc 6 _ rfl
  have k7 := hc 7 _ rfl
  have i0 := idxL0 (.slice p1 n1 a1) (.slice q1 n2 b1) (.slice t1 n3 c1) (.slice s1 n4 d1)
  have i1 := idxL1 (.slice p1 n1 a1) (.slice q1 n2 b1) (.slice t1 n3 c1) (.slice s1 n4 d1)
  have i2 := idxL2 (.slice p1 n1 a1) (.slice q1 n2 b1) (.slice t1 n3 c1) (.slice s1 n4 d1)
  have i3 := idxL3 (.slice p1 n1 a1) (.slice q1 n2 b1) (.slice t1 n3 c1) (.slice s1 n4 d1)
  clear hc hr
  rw [hE] at HB ⊢
  go_enter Tryd.func47, Tryd.ntmps47
  go_wp2
  refine wp_loop_rounds 5 ?_
  rw [rounds_succ]
  go_wp2
  rw [rounds_succ]
  go_wp2
  rw [rounds_succ]
  go_wp2
  rw [rounds_succ]
  go_wp2
  rw [rounds_succ]
  go_wp2
  go_ret
  refine ⟨?_, HB.out⟩
  have h := HM.out
  show Ending.returned (Value.int .i64 _) = _
  congr 2
  omega
theorem OwnZ.weak {w : World} {base base' : Nat} {v : Value} {l : List Int} (h : OwnZ w base v l) (hb : base' ≤ base) : OwnZ w base' v l := by
  rcases h with h | ⟨D, cap, zs, rfl, hb', hr⟩
  · exact .inl h
  · exact .inr ⟨D, cap, zs, rfl, Nat.le_trans hb hb', hr⟩
def No8 (cs : Array Value) : Prop := ∀ (i : Nat) x, cs[i]? ≠ some (.int .u8 x)
theorem no8_delta (a b c d : Int) (o1 o2 o3 o4 : Option Addr) (n1 n2 n3 n4 c1 c2 c3 c4 : Nat) : No8 #[.int .i64 a, .int .i64 b, .int .i64 c, .int .i64 d, .slice o1 n1 c1, .slice o2 n2 c2, .slice o3 n3 c3, .slice o4 n4 c4] := by
  intro i x h
  match i, h with
  | 0, h => simp at h
  | 1, h => simp at h
  | 2, h => simp at h
  | 3, h => simp at h
  | 4, h => simp at h
  | 5, h => simp at h
  | 6, h => simp at h
  | 7, h => simp at h
  | i + 8, h => simp at h
/-- What stays while a delta is read: its block and the answer's, the reader, the rows read. -/
structure PD (w : World) (E q : Nat) (cs : Array Value) (rs : List (Value × List Int)) (p : List UInt8 × Int) (W : World) : Prop where
  kr : KR w E [(E + 1, (.cells cs 30)), (E, (.cells #[.int .i64 0, .int .i64 0, .int .i64 0, .int .i64 0, .slice none 0 0, .slice none 0 0, .slice none 0 0, .slice none 0 0] 30))] W
  rd : IsR W q p.1 p.2
  own : ∀ r ∈ rs, OwnZ W (q + 1) r.1 r.2
  lt : E + 1 < q
theorem PD.later {w : World} {E q : Nat} {cs : Array Value} {rs : List (Value × List Int)} {p : List UInt8 × Int} {W W1 : World} (h : PD w E q cs rs p W) (hb : Below W.heap.size W W1) : PD w E q cs rs p W1 :=
  ⟨h.kr.later hb, h.rd.later hb, fun r hr => (h.own r hr).later fun g hg => hb.block g ((h.own r hr).lt g hg).1, h.lt⟩
theorem PD.read {w : World} {E q : Nat} {cs : Array Value} {rs : List (Value × List Int)} {p p1 : List UInt8 × Int} {W W1 : World} (h : PD w E q cs rs p W) (hg : W.grownBy W1 (some q)) (hr : IsR W1 q p1.1 p1.2) : PD w E q cs rs p1 W1 :=
  ⟨h.kr.grown hg (by have := h.lt; omega) (by
    intro x hx
    have := h.lt
    simp at hx
    rcases hx with rfl | rfl
    · simp; omega
    · simp; omega), hr, fun r hr => (h.own r hr).later fun g hgg => hg.block g ((h.own r hr).lt g hgg).1 (fun e => by injection e with e; have := ((h.own r hr).lt g hgg).2; omega), h.lt⟩
theorem PD.put {w : World} {E q : Nat} {cs ds : Array Value} {rs : List (Value × List Int)} {p : List UInt8 × Int} {W W1 : World} (h : PD w E q cs rs p W) (hg : W.grownBy W1 (some (E + 1))) (hr : W1.heap[E + 1]? = some (.cells ds 30 (0, 0))) (h8 : No8 cs) : PD w E q ds rs p W1 :=
  ⟨h.kr.set hg hr (by omega) (by simp), h.rd.asideA (h.kr.rows _ (.head _)) h8 hg (by have := h.lt; omega), fun r hr => (h.own r hr).later fun g hgg => hg.block g ((h.own r hr).lt g hgg).1 (fun e => by injection e with e; have := ((h.own r hr).lt g hgg).2; have := h.lt; omega), h.lt⟩
theorem PD.log {w : World} {E q : Nat} {cs : Array Value} {rs : List (Value × List Int)} {p p1 : List UInt8 × Int} {v : Value} {l : List Int} {W W1 : World} (h : PD w E q cs rs p W) (hg : W.grownBy W1 (some q)) (hr : IsR W1 q p1.1 p1.2) (ho : OwnZ W1 W.heap.size v l) : PD w E q cs ((v, l) :: rs) p1 W1 := by
  have h1 := h.read hg hr
  refine ⟨h1.kr, h1.rd, fun r hr => ?_, h1.lt⟩
  rcases List.mem_cons.1 hr with rfl | hr
  · exact ho.weak h.rd.lt
  · exact h1.own r hr
end Go.Proofs.YtnfgamekjbkbkaaDoor
