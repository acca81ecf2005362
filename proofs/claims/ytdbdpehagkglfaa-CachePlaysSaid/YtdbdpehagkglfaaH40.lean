/-
  What a call of the book and a call of the document's do together.
-/
import Derived.Test.YtdbdpehagkglfaaH37
namespace Go.Proofs.Ytdbdpehagkglfaa
open Go Go.RowKit
theorem rowZ_congr {W : World} {base : Nat} {v : Value} {a b : List Zz} (h : RowZ W base v a) (hab : a.map encZ = b.map encZ) : RowZ W base v b := by
  have h1 : a.length = b.length := by simpa using congrArg List.length hab
  have h2 : a.flatMap encZ = b.flatMap encZ := by rw [List.flatMap_def, List.flatMap_def, hab]
  unfold RowZ OwnG at *
  rw [h1, h2] at h
  exact h
theorem insZ_map (e e' : Zz) (hc : e.e.c = e'.e.c) (he : encZ e = encZ e') : ∀ zs : List Zz, (insZ e zs).map encZ = (insZ e' zs).map encZ
  | [] => by simp [insZ, he]
  | z :: zs => by
    rw [insZ, insZ, hc]
    split
    · simp [he]
    · simp [insZ_map e e' hc he zs]
theorem insZ_perm (e : Zz) : ∀ zs : List Zz, (insZ e zs).Perm (zs ++ [e])
  | [] => List.Perm.refl _
  | z :: zs => by
    rw [insZ]
    split
    · exact (List.perm_append_singleton e (z :: zs)).symm
    · exact (insZ_perm e zs).cons z
theorem insZ_srt (e : Zz) : ∀ zs : List Zz, zs.Pairwise (fun x y => lessC x.e.c y.e.c = true) → (∀ z ∈ zs, z.e.c ≠ e.e.c) → (insZ e zs).Pairwise (fun x y => lessC x.e.c y.e.c = true)
  | [], _, _ => List.pairwise_singleton _ _
  | z :: zs, h, hn => by
    obtain ⟨h1, h2⟩ := List.pairwise_cons.1 h
    rw [insZ]
    split
    · rename_i hl
      exact List.pairwise_cons.2 ⟨fun y hy => by
        rcases List.mem_cons.1 hy with rfl | hy
        · exact hl
        · exact less_trans _ _ _ hl (h1 y hy), h⟩
    · rename_i hl
      have hz : lessC z.e.c e.e.c = true := by
        rcases less_cases z.e.c e.e.c with k | k | k
        · exact k
        · exact absurd k (hn z (.head _))
        · exact absurd k hl
      refine List.pairwise_cons.2 ⟨fun y hy => ?_, insZ_srt e zs h2 (fun y hy => hn y (.tail _ hy))⟩
      rcases List.mem_append.1 ((insZ_perm e zs).mem_iff.1 hy) with hy | hy
      · exact h1 y hy
      · rw [List.mem_singleton.1 hy]; exact hz
theorem len_le {zs : List Zz} (h : zs.length ≤ 16) : (ens zs).length ≤ 1000 := by simp [ens]; omega
theorem StL.form {B : Nat} {w : World} {n : Nat} {zs : List Zz} {mv : Value} {W : World} (h : StL B w n zs mv W) : ∃ a k c, mv = .slice a k c := by
  obtain ⟨a, c, hv, -, -⟩ := OwnG.form h.row
  exact ⟨a, _, c, hv⟩
/-- Want, in both. -/
theorem want_pair {B : Nat} {w : World} {n : Nat} {zs : List Zz} {mv : Value} {W : World} (h : StL B w n zs mv W) (hB : B ≤ W.heap.size) (c : Cl) (hc : Cl64 c) (tk : Int) (ht : 0 ≤ tk ∧ tk ≤ 1073741824) :
    ∃ er : Int, Calls Try.prog 8 #[mv, clV c, .int .i64 tk] W fun x W1 => ∃ a k cp, x = .returned (.tuple #[.slice a k cp, .int .i64 er]) ∧ Below W.heap.size W W1 ∧ ∀ W2, Below W1.heap.size W1 W2 → Calls Try.prog 9 #[ptr B, clV c, .int .i64 tk] W2 fun x W3 => x = .returned (.int .i64 er) ∧ ∃ zs', StL B w n zs' (.slice a k cp) W3 := by
  have hz : zs.length ≤ 1000 := by have := h.le; omega
  have same : ∀ er : Int, (Calls Try.prog 8 #[mv, clV c, .int .i64 tk] W fun x W1 => x = .returned (.tuple #[mv, .int .i64 er]) ∧ Below W.heap.size W W1) → (∀ W2, Below W.heap.size W W2 → Calls Try.prog 9 #[ptr B, clV c, .int .i64 tk] W2 fun x W3 => x = .returned (.int .i64 er) ∧ Below W2.heap.size W2 W3) →
      ∃ er : Int, Calls Try.prog 8 #[mv, clV c, .int .i64 tk] W fun x W1 => ∃ a k cp, x = .returned (.tuple #[.slice a k cp, .int .i64 er]) ∧ Below W.heap.size W W1 ∧ ∀ W2, Below W1.heap.size W1 W2 → Calls Try.prog 9 #[ptr B, clV c, .int .i64 tk] W2 fun x W3 => x = .returned (.int .i64 er) ∧ ∃ zs', StL B w n zs' (.slice a k cp) W3 := fun er h1 h2 => by
    obtain ⟨a, k, cp, rfl⟩ := h.form
    refine ⟨er, h1.mono ?_⟩
    rintro x W1 ⟨rfl, hb⟩
    refine ⟨a, k, cp, rfl, hb, fun W2 hb2 => ?_⟩
    have hb3 := hb.trans (hb2.mono hb.size)
    refine (h2 W2 hb3).mono ?_
    rintro x W3 ⟨rfl, hb4⟩
    exact ⟨rfl, zs, h.later hB (hb3.trans (hb4.mono hb3.size))⟩
  by_cases hok : okC c = true
  · rcases h.cases c with hn0 | ⟨K, hK, hcK, hb⟩
    · by_cases hf : 16 ≤ zs.length
      · exact same 6 (rwant_full B mv zs c tk W h.row hz hok hn0 hf) (fun W2 hb2 => want_full B B (ens zs) tk W2 (h.book.later hb2) c hc (ens_out hn0) hok (by simpa [ens] using hf))
      · refine ⟨0, (rwant_ok B mv zs c tk W h.row (by omega) hok hn0 h.slz).mono ?_⟩
        rintro x W1 ⟨v', rfl, hr, hb⟩
        obtain ⟨a, cp, rfl, -, -⟩ := OwnG.form hr
        refine ⟨a, _, cp, rfl, hb, fun W2 hb2 => ?_⟩
        have hb3 := hb.trans (hb2.mono hb.size)
        have hB2 : B ≤ W2.heap.size := Nat.le_trans hB hb3.size
        refine (want_ok B B (ens zs) tk W2 (h.book.later hb3) c hc (ens_out hn0) hok (by simp [ens]; omega) ht hB2).mono ?_
        rintro x W3 ⟨rfl, p, h1, h2⟩
        have henc : encZ (newZ c tk) = encZ ⟨⟨c, p, Ws.zero, none, tk⟩, .slice none 0 0, .slice none 0 0, [], tk⟩ := rfl
        have hperm := insZ_perm ⟨⟨c, p, Ws.zero, none, tk⟩, .slice none 0 0, .slice none 0 0, [], tk⟩ zs
        refine ⟨rfl, insZ ⟨⟨c, p, Ws.zero, none, tk⟩, .slice none 0 0, .slice none 0 0, [], tk⟩ zs, ⟨?_, ?_, fun z hz' => ?_, insZ_srt _ zs h.srt hn0, by rw [insZ_length]; omega, h.below.trans ((hb3.mono hB).trans (h2.below hB2))⟩⟩
        · refine h1.perm ?_
          have := (hperm.map (·.e)).symm
          simpa [ens] using this
        · have h3 := rowZ_congr hr (insZ_map (newZ c tk) ⟨⟨c, p, Ws.zero, none, tk⟩, .slice none 0 0, .slice none 0 0, [], tk⟩ rfl henc zs)
          have h4 : RowZ W3 W.heap.size _ _ := OwnG.keepB (OwnG.later h3 hb2) h2 (by decide) (by decide)
          exact OwnG.weak h4 hB
        · rcases List.mem_append.1 (hperm.mem_iff.1 hz') with hz' | hz'
          · exact ((h.each z hz').later hb3).keepB h2
          · obtain rfl := List.mem_singleton.1 hz'
            exact ⟨.inl rfl, OwnN.nil _ _ _, RelW.start, Nat.zero_le _, rfl, ht, fun _ => rfl, fun _ => rfl⟩
    · refine same 8 (rwant_twice B mv zs c tk W h.row hz hok K hK hcK hb) (fun W2 hb2 => ?_)
      rw [← hcK] at hok ⊢
      exact want_twice B B (ens zs) tk W2 (h.book.later hb2) _ (ens_in hK) hok
  · have hok' : okC c = false := by simpa using hok
    exact same 10 (rwant_bad B mv zs c tk W h.row hz hok') (fun W2 hb2 => want_bad B c tk hok' W2)
theorem due_both {B : Nat} {w : World} {n : Nat} {zs : List Zz} {mv : Value} {W : World} (h : StL B w n zs mv W) (tk : Int) : ∀ z ∈ zs, dueE tk z.e = dueZ tk z := fun z hz => by
  have hw := (h.each z hz).was
  unfold dueE dueZ
  cases hk : z.e.k with
  | none => rw [hw hk]; rfl
  | some bs => rfl
theorem due_ens {zs : List Zz} {tk : Int} (h : ∀ z ∈ zs, dueE tk z.e = dueZ tk z) : dueL tk (ens zs) = ens (zs.map (updZ tk)) := by
  unfold dueL ens
  rw [List.map_map, List.map_map]
  refine List.map_congr_left fun z hz => ?_
  simp only [Function.comp, updZ]
  rw [h z hz]
  split <;> rfl
/-- Due, in both. -/
theorem due_pair {B : Nat} {w : World} {n : Nat} {zs : List Zz} {mv : Value} {W : World} (h : StL B w n zs mv W) (hB : B ≤ W.heap.size) (tk : Int) (ht : 0 ≤ tk ∧ tk ≤ 1073741824) :
    Calls Try.prog 11 #[ptr B, .int .i64 tk] W fun x W1 => ∃ a k cp, x = .returned (.slice a k cp) ∧ Calls Try.prog 12 #[mv, .int .i64 tk] W1 fun x W2 => ∃ a2 k2 cp2 l zs', x = .returned (.slice a2 k2 cp2) ∧ RowC W2 (.slice a k cp) l ∧ RowC W2 (.slice a2 k2 cp2) l ∧ l.length ≤ 1000 ∧ StL B w n zs' mv W2 := by
  have hbo := due_both h tk
  have hl : whoE (dueE tk) (ens zs) = dueCs tk zs := by
    rw [srt_who h.srt]
    unfold dueCs
    rw [List.filter_congr hbo]
  refine (due_any15 B B (ens zs) tk W h.book (len_le h.le) ht).mono ?_
  rintro x W1 ⟨u, rfl, h1, h2, h3⟩
  rw [hl] at h1
  rw [due_ens hbo] at h2
  obtain ⟨a, cp, rfl⟩ := h1.1.form
  refine ⟨a, _, cp, rfl, ?_⟩
  have hr1 : RowZ W1 B mv zs := OwnG.keepB h.row h3 (by decide) (by decide)
  refine (rdue_any B mv zs tk W1 hr1 (by have := h.le; omega) ht (fun z hz => (h.each z hz).ask)).mono ?_
  rintro x W2 ⟨v, rfl, g1, g2, g3⟩
  have hlen : (dueCs tk zs).length ≤ 1000 := Nat.le_trans (dueCs_len tk zs) (by have := h.le; omega)
  obtain ⟨a2, cp2, rfl, -, -⟩ := OwnG.form g1
  have hkt : KT W1 W2 := by
    refine ⟨g3.os, g3.tape, g3.output, g3.size, fun i o h0 h4 => ?_⟩
    rw [g3.block i (Array.getElem?_eq_some_iff.1 h0).1 (fun e => ?_)]
    · exact h0
    · obtain ⟨cs, fr, hk⟩ := OwnG.kind hr1 i e.symm
      rw [h0] at hk
      exact h4 cs fr (Option.some.inj hk)
  refine ⟨a2, _, cp2, dueCs tk zs, zs.map (updZ tk), rfl, ?_, OwnG.rowT g1, hlen, ⟨h2.keepT hkt, g2, fun z hz => ?_, ?_, by rw [List.length_map]; exact h.le, ?_⟩⟩
  · cases ho : mv.ownBlock with
    | none =>
      rw [ho] at g3
      have hb : Below W1.heap.size W1 W2 := ⟨g3.os, g3.tape, g3.output, g3.size, fun i hi => g3.block i hi (by simp)⟩
      exact h1.1.later hb
    | some g =>
      rw [ho] at g3
      exact (h1.aside g3 (OwnG.lt h.row g ho).1).1
  · obtain ⟨y, hy, rfl⟩ := List.mem_map.1 hz
    have hy1 := ((h.each y hy).keepB h3).keepT hkt
    unfold updZ
    split
    · exact ⟨hy1.key, hy1.tak, hy1.rel, hy1.len, hy1.sl, ht, fun _ => rfl, hy1.new⟩
    · exact hy1
  · rw [List.pairwise_map]
    refine h.srt.imp fun {x y} hxy => ?_
    have : ∀ z, (updZ tk z).e.c = z.e.c := fun z => by unfold updZ; split <;> rfl
    rw [this, this]
    exact hxy
  · refine (h.below.trans (h3.below hB)).trans ⟨g3.os, g3.tape, g3.output, g3.size, fun i hi => g3.block i (Nat.lt_of_lt_of_le hi (Nat.le_trans hB h3.size)) (fun e => ?_)⟩
    have := (OwnG.lt h.row i e.symm).2
    omega
theorem gb_kt {W W1 : World} {B : Nat} {mv : Value} {zs : List Zz} (hr : RowZ W B mv zs) (g : W.grownBy W1 mv.ownBlock) : KT W W1 := by
  refine ⟨g.os, g.tape, g.output, g.size, fun i o h0 h4 => ?_⟩
  rw [g.block i (Array.getElem?_eq_some_iff.1 h0).1 (fun e => ?_)]
  · exact h0
  · obtain ⟨cs, fr, hk⟩ := OwnG.kind hr i e.symm
    rw [h0] at hk
    exact h4 cs fr (Option.some.inj hk)
theorem gb_bel {W W1 : World} {B : Nat} {mv : Value} {zs : List Zz} (hr : RowZ W B mv zs) (g : W.grownBy W1 mv.ownBlock) (hB : B ≤ W.heap.size) : Below B W W1 := ⟨g.os, g.tape, g.output, g.size, fun i hi => g.block i (by omega) (fun e => by have := (OwnG.lt hr i e.symm).2; omega)⟩
theorem setC_set {zs : List Zz} (hs : zs.Pairwise (fun x y => lessC x.e.c y.e.c = true)) {K : Nat} (hK : K < zs.length) (z' : Zz) (hc : z'.e.c = (zs[K]).e.c) : ens (zs.set K z') = setC (ens zs) z'.e := by
  unfold ens setC
  rw [List.map_map]
  apply List.ext_getElem
  · simp
  · intro j h1 h2
    rw [List.length_map, List.length_set] at h1
    simp only [List.getElem_map, Function.comp, List.getElem_set]
    by_cases hj : K = j
    · subst hj
      rw [if_pos rfl, if_pos hc.symm]
    · rw [if_neg hj, if_neg]
      intro e
      have e2 := e.trans hc
      rcases Nat.lt_or_gt_of_ne hj with h3 | h3
      · exact srt_ne hs j h1 K hK h3 e2.symm
      · exact srt_ne hs K hK j h1 h3 e2
theorem srt_set {zs : List Zz} (hs : zs.Pairwise (fun x y => lessC x.e.c y.e.c = true)) {K : Nat} (hK : K < zs.length) (z' : Zz) (hc : z'.e.c = (zs[K]).e.c) : (zs.set K z').Pairwise (fun x y => lessC x.e.c y.e.c = true) := by
  have h1 : (zs.set K z').map (·.e.c) = zs.map (·.e.c) := by
    apply List.ext_getElem
    · simp
    · intro j h1 h2
      simp only [List.getElem_map, List.getElem_set]
      split
      · rename_i hj
        subst hj
        exact hc
      · rfl
  have h2 : (zs.map (·.e.c)).Pairwise (fun x y => lessC x y = true) := List.pairwise_map.2 hs
  rw [← h1] at h2
  exact List.pairwise_map.1 h2
/-- One entry of both turned. -/
theorem StL.turn {B : Nat} {w : World} {n : Nat} {zs : List Zz} {mv : Value} {W : World} (h : StL B w n zs mv W) {K : Nat} (hK : K < zs.length) (z' : Zz) (hc : z'.e.c = (zs[K]).e.c) {m : Nat} (hm : n ≤ m) {W1 : World} (hbook : BookAt B B (setC (ens zs) z'.e) W1) (hrow : RowZ W1 B mv (zs.set K z')) (hz : ZOk B W1 m z') (hold : ∀ z ∈ zs, ZOk B W1 n z) (hb : Below B w W1) : StL B w m (zs.set K z') mv W1 := by
  refine ⟨by rw [setC_set h.srt hK z' hc]; exact hbook, hrow, fun z hz' => ?_, srt_set h.srt hK z' hc, by rw [List.length_set]; exact h.le, hb⟩
  rcases List.mem_or_eq_of_mem_set hz' with h1 | h1
  · exact (hold z h1).more hm
  · rw [h1]; exact hz
/-- Put, in both. -/
theorem put_pair {B : Nat} {w : World} {n : Nat} {zs : List Zz} {mv : Value} {W : World} (h : StL B w n zs mv W) (hB : B ≤ W.heap.size) (c : Cl) (hc : Cl64 c) (g : Nat) (bs : List UInt8) (hg : IsKey W (ptr g) bs) (hbl : bs.length ≤ 1000) (ka : Option Addr) (kn kc : Nat) (hkv : ∀ W1, Below B w W1 → Bytes W1 (.slice ka kn kc) bs) :
    ∃ er : Int, Calls Try.prog 13 #[ptr B, clV c, ptr g] W fun x W1 => x = .returned (.int .i64 er) ∧ Below B W W1 ∧ KB B W W1 ∧ Calls Try.prog 15 #[mv, clV c, .slice ka kn kc] W1 fun x W2 => x = .returned (.int .i64 er) ∧ Below B W1 W2 ∧ KT W1 W2 ∧ ∃ zs', StL B w n zs' mv W2 := by
  have hz : zs.length ≤ 1000 := by have := h.le; omega
  rcases h.cases c with hn0 | ⟨K, hK, hcK, hb⟩
  · refine ⟨7, (put_none B B (ens zs) W h.book c hc (ens_out hn0) g).mono ?_⟩
    rintro x W1 ⟨rfl, h1⟩
    refine ⟨rfl, h1.mono hB, KB.of h1, (rput_out B mv zs c ka kn kc W1 (OwnG.later h.row h1) hz hn0).mono ?_⟩
    rintro x W2 ⟨rfl, h2⟩
    exact ⟨rfl, h2.mono (Nat.le_trans hB h1.size), KT.of h2, zs, (h.later hB h1).later (Nat.le_trans hB h1.size) h2⟩
  · cases hk : (zs[K]).e.k with
    | some kb =>
      refine ⟨7, ?_⟩
      have h0 := put_known B B (ens zs) W h.book _ (ens_in hK) (by rw [hk]; rfl) g
      rw [hcK] at h0
      refine h0.mono ?_
      rintro x W1 ⟨rfl, h1⟩
      refine ⟨rfl, h1.mono hB, KB.of h1, (rput_known B mv zs c ka kn kc W1 (OwnG.later h.row h1) hz K hK hcK hb (by rw [hk]; rfl)).mono ?_⟩
      rintro x W2 ⟨rfl, h2⟩
      exact ⟨rfl, h2.mono (Nat.le_trans hB h1.size), KT.of h2, zs, (h.later hB h1).later (Nat.le_trans hB h1.size) h2⟩
    | none =>
      refine ⟨0, ?_⟩
      have h0 := put_ok B B (ens zs) W h.book _ (ens_in hK) (by rw [hk]; rfl) g bs hg hbl hB
      rw [hcK] at h0
      refine h0.mono ?_
      rintro x W1 ⟨rfl, p, h1, h2⟩
      have hbw : Below B w W1 := h.below.trans (h2.below hB)
      have hB1 : B ≤ W1.heap.size := Nat.le_trans hB h2.size
      have hr1 : RowZ W1 B mv zs := OwnG.keepB h.row h2 (by decide) (by decide)
      refine ⟨rfl, h2.below hB, h2, (rput_ok B mv zs c (.slice ka kn kc) bs W1 hr1 hz K hK hcK hb (by rw [hk]; rfl) (hkv W1 hbw) hbl).mono ?_⟩
      rintro x W2 ⟨rfl, g1, kv', g2, g3⟩
      have hkt := gb_kt hr1 g1
      have hb2 := gb_bel hr1 g1 hB1
      have hZ := h.each _ (List.getElem_mem hK)
      refine ⟨rfl, hb2, hkt, _, h.turn hK ⟨⟨c, p, Ws.zero, some bs, 0⟩, kv', (zs[K]).tv, (zs[K]).ns, (zs[K]).ask⟩ hcK.symm (Nat.le_refl _) (h1.keepT hkt) (g3 _ rfl rfl) ?_ (fun z hz' => ((h.each z hz').keepB h2).keepT hkt) (hbw.trans hb2)⟩
      have hZ2 := (hZ.keepB h2).keepT hkt
      obtain ⟨sa, sc, hs⟩ := own_form g2
      refine ⟨.inr ⟨bs, rfl, g2.weak hB1, hbl⟩, hZ2.tak, ?_, hZ2.len, by rw [hs]; rfl, hZ2.ask, (fun e => by cases e), (fun e => by cases e)⟩
      rw [hZ.new hk]
      exact RelW.start
/-- What Take leaves, ahead of the document's own list. -/
structure Took15 (B : Nat) (w : World) (n : Nat) (zs : List Zz) (mv : Value) (K : Nat) (hK : K < zs.length) (nn : Nn) (W : World) : Prop where
  book : BookAt B B (setC (ens zs) ⟨(zs[K]).e.c, (zs[K]).e.p, takeW (zs[K]).e.s nn, (zs[K]).e.k, (zs[K]).e.a⟩) W
  row : RowZ W B mv zs
  each : ∀ z ∈ zs, ZOk B W n z
  look : lookW (zs[K]).e.s nn = 0
  below : Below B w W
  kn : (zs[K]).e.k ≠ none
theorem setC_self {l : List En} (hk : l.Pairwise (fun x y => x.c ≠ y.c)) {e : En} (he : e ∈ l) : setC l e = l := by
  unfold setC
  conv => rhs; rw [← List.map_id l]
  refine List.map_congr_left fun y hy => ?_
  split
  · rename_i h
    rw [pw_inj hk he hy h]
    rfl
  · rfl
/-- Take, in both. -/
theorem take_pair {B : Nat} {w : World} {n : Nat} {zs : List Zz} {mv : Value} {W : World} (h : StL B w n zs mv W) (hB : B ≤ W.heap.size) (hn : n ≤ 1000) (c : Cl) (hc : Cl64 c) (nn : Nn) (hfn : nn.fit) :
    ∃ D : Int, (Calls Try.prog 16 #[mv, clV c, nv nn] W fun x W1 => x = .returned (.int .i64 D) ∧ Below W.heap.size W W1) ∧
      ((D ≠ 0 ∧ ∀ W1, Below W.heap.size W W1 → Calls Try.prog 17 #[ptr B, clV c, nv nn] W1 fun x W2 => x = .returned (.int .i64 D) ∧ Below B W1 W2 ∧ KB B W1 W2 ∧ StL B w n zs mv W2) ∨
       (D = 0 ∧ ∃ K, ∃ hK : K < zs.length, (zs[K]).e.c = c ∧ (∀ j (hj : j < zs.length), j < K → (zs[j]).e.c ≠ c) ∧ ∀ W1, Below W.heap.size W W1 → Calls Try.prog 17 #[ptr B, clV c, nv nn] W1 fun x W2 => x = .returned (.int .i64 0) ∧ Below B W1 W2 ∧ KB B W1 W2 ∧ Took15 B w n zs mv K hK nn W2)) := by
  have hz : zs.length ≤ 1000 := by have := h.le; omega
  rcases h.cases c with hn0 | ⟨K, hK, hcK, hb⟩
  · refine ⟨7, rlook15_out B mv zs c nn W h.row hz hn0, .inl ⟨by decide, fun W1 hb1 => ?_⟩⟩
    refine (take_err15 (ptr B) c nn 7 (by decide) W1 (fun W2 hb2 => find_out B B (ens zs) c hc (ens_out hn0) W2 ((h.book.later hb1).later hb2))).mono ?_
    rintro x W2 ⟨rfl, h2⟩
    have hB1 := Nat.le_trans hB hb1.size
    exact ⟨rfl, h2.mono hB1, KB.of h2, (h.later hB hb1).later hB1 h2⟩
  · have hZ := h.each _ (List.getElem_mem hK)
    cases hk : (zs[K]).e.k with
    | none =>
      refine ⟨11, rlook15_wanted B mv zs c nn W h.row hz K hK hcK hb (by rw [hk]; rfl), .inl ⟨by decide, fun W1 hb1 => ?_⟩⟩
      refine (take_err15 (ptr B) c nn 11 (by decide) W1 (fun W2 hb2 => by rw [← hcK]; exact find_wanted B B (ens zs) _ (ens_in hK) (by rw [hk]; rfl) W2 ((h.book.later hb1).later hb2))).mono ?_
      rintro x W2 ⟨rfl, h2⟩
      have hB1 := Nat.le_trans hB hb1.size
      exact ⟨rfl, h2.mono hB1, KB.of h2, (h.later hB hb1).later hB1 h2⟩
    | some bs =>
      have h1 := rlook15_known B mv zs c nn W h.row hz K hK hcK hb (by rw [hk]; rfl) (hZ.tak.reads) (Nat.le_trans hZ.len hn) hZ.rel.ok hfn
      rw [← hZ.rel.look nn] at h1
      have ht := fun W1 (hb1 : Below W.heap.size W W1) => take_known B B (ens zs) _ (ens_in hK) (by rw [hk]; rfl) nn W1 (h.book.later hb1)
      rw [hcK] at ht
      by_cases hD : lookW (zs[K]).e.s nn = 0
      · rw [hD] at h1 ht
        refine ⟨0, h1, .inr ⟨rfl, K, hK, hcK, hb, fun W1 hb1 => (ht W1 hb1).mono ?_⟩⟩
        rintro x W2 ⟨rfl, h2, h3⟩
        have hB1 := Nat.le_trans hB hb1.size
        rw [← hcK] at h2
        exact ⟨rfl, h3.below hB1, h3, h2, OwnG.keepB (OwnG.later h.row hb1) h3 (by decide) (by decide), fun z hz' => ((h.each z hz').later hb1).keepB h3, hD, (h.below.trans (hb1.mono hB)).trans (h3.below hB1), by rw [hk]; simp⟩
      · refine ⟨lookW (zs[K]).e.s nn, h1, .inl ⟨hD, fun W1 hb1 => (ht W1 hb1).mono ?_⟩⟩
        rintro x W2 ⟨rfl, h2, h3⟩
        have hB1 := Nat.le_trans hB hb1.size
        have hsl : setC (ens zs) ⟨c, (zs[K]).e.p, takeW (zs[K]).e.s nn, (zs[K]).e.k, (zs[K]).e.a⟩ = ens zs := by
          rw [hZ.rel.keep hD, ← hcK]
          exact setC_self h.book.keys (ens_in hK)
        rw [hsl] at h2
        exact ⟨rfl, h3.below hB1, h3, h2, OwnG.keepB (OwnG.later h.row hb1) h3 (by decide) (by decide), fun z hz' => ((h.each z hz').later hb1).keepB h3, h.srt, h.le, (h.below.trans (hb1.mono hB)).trans (h3.below hB1)⟩
/-- The document's list behind a nonce that was taken. -/
theorem Took15.done {B : Nat} {w : World} {n : Nat} {zs : List Zz} {g gn gc K : Nat} {hK : K < zs.length} {nn : Nn} {W : World} (h : Took15 B w n zs (.slice (some ⟨g, 0, none⟩) gn gc) K hK nn W) (hs : zs.Pairwise (fun x y => lessC x.e.c y.e.c = true)) (hle : zs.length ≤ 16) (tv' : Value) (ho : OwnN 26 W B tv' ((zs[K]).ns ++ [nn])) (hB : B ≤ W.heap.size) : ∃ zs', StL B w (n + 1) zs' (.slice (some ⟨g, 0, none⟩) gn gc) (W.setCell ⟨g, K * 8 + 7, none⟩ tv') := by
  have hg : W.grownBy (W.setCell ⟨g, K * 8 + 7, none⟩ tv') (some g) := kb_setCell _ _ _
  have hkt : KT W (W.setCell ⟨g, K * 8 + 7, none⟩ tv') := KT.by_ hg (RowZ.row h.row)
  have hb2 : Below B W (W.setCell ⟨g, K * 8 + 7, none⟩ tv') := gb_bel h.row hg hB
  have hZ := h.each _ (List.getElem_mem hK)
  have hZ2 := hZ.keepT hkt
  refine ⟨zs.set K ⟨⟨(zs[K]).e.c, (zs[K]).e.p, takeW (zs[K]).e.s nn, (zs[K]).e.k, (zs[K]).e.a⟩, (zs[K]).kv, tv', (zs[K]).ns ++ [nn], (zs[K]).ask⟩, ?_, ?_, fun z hz' => ?_, srt_set hs hK _ rfl, by rw [List.length_set]; exact hle, h.below.trans hb2⟩
  · have e1 := setC_set hs hK (⟨⟨(zs[K]).e.c, (zs[K]).e.p, takeW (zs[K]).e.s nn, (zs[K]).e.k, (zs[K]).e.a⟩, (zs[K]).kv, tv', (zs[K]).ns ++ [nn], (zs[K]).ask⟩ : Zz) rfl
    rw [e1]
    exact h.book.keepT hkt
  · exact OwnG.set h.row encZ_len K hK 7 (by omega) tv' _ (by simp [encZ])
  · rcases List.mem_or_eq_of_mem_set hz' with h1 | h1
    · exact ((h.each z h1).keepT hkt).more (Nat.le_succ n)
    · rw [h1]
      refine ⟨?_, ho.keepT hkt (by decide), hZ.rel.take h.look, by have := hZ.len; simp; omega, hZ2.sl, hZ2.ask, fun e => absurd e h.kn, fun e => absurd e h.kn⟩
      exact hZ2.key
/-- Drop, in both. -/
theorem drop_pair {B : Nat} {w : World} {n : Nat} {zs : List Zz} {mv : Value} {W : World} (h : StL B w n zs mv W) (hB : B ≤ W.heap.size) (c : Cl) (hc : Cl64 c) :
    ∃ (F : Int) (D : Int), ((decide (0 ≤ F) = true ∧ D = 1) ∨ (decide (0 ≤ F) = false ∧ D = 0)) ∧ (Calls Try.prog 19 #[mv, clV c] W fun x W1 => x = .returned (.int .i64 F) ∧ Below W.heap.size W W1) ∧
      ∀ W1 v, Below W.heap.size W W1 → RowC W1 v [c, c] → Calls Try.prog 20 #[ptr B, v] W1 fun x W2 => x = .returned (.int .i64 D) ∧ Below B W1 W2 ∧ KB B W1 W2 ∧ ∀ W3, Below W2.heap.size W2 W3 → Calls Try.prog 21 #[mv, clV c] W3 fun x W4 => ∃ a k cp zs', x = .returned (.slice a k cp) ∧ StL B w n zs' (.slice a k cp) W4 := by
  have hz : zs.length ≤ 1000 := by have := h.le; omega
  have hle : leftE (ens zs) [c, c] = ens (leftZ c zs) := by
    unfold leftE ens leftZ
    rw [List.filter_map]
    congr 1
    refine List.filter_congr fun z _ => ?_
    simp [Function.comp]
  have hcount : ((ens zs).length : Int) - ((leftE (ens zs) [c, c]).length : Int) = ((zs.length : Int) - ((leftZ c zs).length : Int)) := by rw [hle]; simp [ens]
  have rest : ∀ D : Int, (zs.length : Int) - ((leftZ c zs).length : Int) = D → ∀ W1 v, Below W.heap.size W W1 → RowC W1 v [c, c] → Calls Try.prog 20 #[ptr B, v] W1 fun x W2 => x = .returned (.int .i64 D) ∧ Below B W1 W2 ∧ KB B W1 W2 ∧ ∀ W3, Below W2.heap.size W2 W3 → Calls Try.prog 21 #[mv, clV c] W3 fun x W4 => ∃ a k cp zs', x = .returned (.slice a k cp) ∧ StL B w n zs' (.slice a k cp) W4 := fun D hD W1 v hb1 hv => by
    have hB1 := Nat.le_trans hB hb1.size
    refine (drop_any15 B B (ens zs) v [c, c] W1 (h.book.later hb1) (len_le h.le) hv (by simp) (fun y hy => by
      have : y = c := by simpa using hy
      rw [this]; exact hc)).mono ?_
    rintro x W2 ⟨rfl, ⟨h1, h2⟩, -⟩
    rw [hcount, hD]
    rw [hle] at h1
    refine ⟨rfl, h2.below hB1, h2, fun W3 hb3 => ?_⟩
    have hB2 := Nat.le_trans hB1 h2.size
    have hr3 : RowZ W3 B mv zs := OwnG.later (OwnG.keepB (OwnG.later h.row hb1) h2 (by decide) (by decide)) hb3
    refine (rdrop_any B mv zs c W3 hr3 (by have := h.le; omega) h.slz).mono ?_
    rintro x W4 ⟨v4, rfl, h4, h5⟩
    obtain ⟨a, cp, rfl, -, -⟩ := OwnG.form h4
    have hB3 := Nat.le_trans hB2 hb3.size
    exact ⟨a, _, cp, leftZ c zs, rfl, (h1.later hb3).later h5, OwnG.weak h4 hB3, fun z hz' => ((((h.each z (List.mem_filter.1 hz').1).later hb1).keepB h2).later hb3).later h5, h.srt.filter _, Nat.le_trans (leftZ_len c zs) h.le, (((h.below.trans (hb1.mono hB)).trans (h2.below hB1)).trans (hb3.mono hB2)).trans (h5.mono hB3)⟩
  rcases h.cases c with hn0 | ⟨K, hK, hcK, hb⟩
  · refine ⟨-1, 0, .inr ⟨by decide, rfl⟩, rfind_out B mv zs c W h.row hz hn0, rest 0 ?_⟩
    have : leftZ c zs = zs := List.filter_eq_self.2 fun z hz' => by simpa using hn0 z hz'
    rw [this]
    omega
  · refine ⟨(K : Int), 1, .inl ⟨decide_eq_true (by omega), rfl⟩, rfind_at B mv zs c W h.row hz K hK hcK hb, rest 1 ?_⟩
    have h1 : leftZ c zs = zs.eraseIdx K := by
      clear rest hcount hle
      unfold leftZ
      have hsr := h.srt
      clear h hz
      induction zs generalizing K with
      | nil => simp at hK
      | cons z zs ih =>
        obtain ⟨h1, h2⟩ := List.pairwise_cons.1 hsr
        cases K with
        | zero =>
          have hz0 : z.e.c = c := hcK
          rw [List.eraseIdx_cons_zero, List.filter_cons_of_neg (by simp [hz0])]
          refine List.filter_eq_self.2 fun y hy => ?_
          have := h1 y hy
          simp only [decide_eq_true_eq]
          intro e
          rw [hz0, e, less_irr] at this
          cases this
        | succ K =>
          have hz0 : z.e.c ≠ c := hb 0 (by simp) (by omega)
          rw [List.eraseIdx_cons_succ, List.filter_cons_of_pos (by simpa using hz0), ih K (by simpa using hK) (by simpa using hcK) (fun j hj hjK => by have := hb (j + 1) (by simpa using hj) (by omega); simpa using this) h2]
    rw [h1, List.length_eraseIdx_of_lt hK]
    omega
end Go.Proofs.Ytdbdpehagkglfaa
namespace Go.Proofs.Ytdbdpehagkglfaa
open Go Go.RowKit
set_option maxRecDepth 100000 in
theorem open227 {a : Act} (h : Fr 227 a) : ∃ x : Nat → Value, a = ⟨List.toArray (x 0 :: x 1 :: x 2 :: x 3 :: x 4 :: x 5 :: x 6 :: x 7 :: x 8 :: x 9 :: x 10 :: x 11 :: x 12 :: x 13 :: x 14 :: x 15 :: x 16 :: x 17 :: x 18 :: x 19 :: x 20 :: x 21 :: x 22 :: x 23 :: x 24 :: x 25 :: x 26 :: x 27 :: x 28 :: x 29 :: x 30 :: x 31 :: x 32 :: x 33 :: x 34 :: x 35 :: x 36 :: x 37 :: x 38 :: x 39 :: x 40 :: x 41 :: x 42 :: x 43 :: x 44 :: x 45 :: x 46 :: x 47 :: x 48 :: x 49 :: x 50 :: x 51 :: x 52 :: x 53 :: x 54 :: x 55 :: x 56 :: x 57 :: x 58 :: x 59 :: x 60 :: x 61 :: x 62 :: x 63 :: x 64 :: x 65 :: x 66 :: x 67 :: x 68 :: x 69 :: x 70 :: x 71 :: x 72 :: x 73 :: x 74 :: x 75 :: x 76 :: x 77 :: x 78 :: x 79 :: x 80 :: x 81 :: x 82 :: x 83 :: x 84 :: x 85 :: x 86 :: x 87 :: x 88 :: x 89 :: x 90 :: x 91 :: x 92 :: x 93 :: x 94 :: x 95 :: x 96 :: x 97 :: x 98 :: x 99 :: x 100 :: x 101 :: x 102 :: x 103 :: x 104 :: x 105 :: x 106 :: x 107 :: x 108 :: x 109 :: x 110 :: x 111 :: x 112 :: x 113 :: x 114 :: x 115 :: x 116 :: x 117 :: x 118 :: x 119 :: x 120 :: x 121 :: x 122 :: x 123 :: x 124 :: x 125 :: x 126 :: x 127 :: x 128 :: x 129 :: x 130 :: x 131 :: x 132 :: x 133 :: x 134 :: x 135 :: x 136 :: x 137 :: x 138 :: x 139 :: x 140 :: x 141 :: x 142 :: x 143 :: x 144 :: x 145 :: x 146 :: x 147 :: x 148 :: x 149 :: x 150 :: x 151 :: x 152 :: x 153 :: x 154 :: x 155 :: x 156 :: x 157 :: x 158 :: x 159 :: x 160 :: x 161 :: x 162 :: x 163 :: x 164 :: x 165 :: x 166 :: x 167 :: x 168 :: x 169 :: x 170 :: x 171 :: x 172 :: x 173 :: x 174 :: x 175 :: x 176 :: x 177 :: x 178 :: x 179 :: x 180 :: x 181 :: x 182 :: x 183 :: x 184 :: x 185 :: x 186 :: x 187 :: x 188 :: x 189 :: x 190 :: x 191 :: x 192 :: x 193 :: x 194 :: x 195 :: x 196 :: x 197 :: x 198 :: x 199 :: x 200 :: x 201 :: x 202 :: x 203 :: x 204 :: x 205 :: x 206 :: x 207 :: x 208 :: x 209 :: x 210 :: x 211 :: x 212 :: x 213 :: x 214 :: x 215 :: x 216 :: x 217 :: x 218 :: x 219 :: x 220 :: x 221 :: x 222 :: x 223 :: x 224 :: x 225 :: x 226 :: []), []⟩ ∧ ∀ i, a.eval (.tmp i) = x i := ⟨fun i => a.tmps.getD i undef, h.form, fun _ => rfl⟩
/-- What stays in the frame. -/
structure FB15 (v0 : Value) (X B : Nat) (a : Act) : Prop where
  fr : Fr 227 a
  s0 : a.eval (.tmp 0) = v0
  s4 : a.eval (.tmp 4) = .pointer (some ⟨X, 0, none⟩)
  s5 : a.eval (.tmp 5) = .pointer (some ⟨X + 1, 0, none⟩)
  s7 : a.eval (.tmp 7) = .pointer (some ⟨B, 0, none⟩)
/-- Between two rounds. -/
structure IL15 (wb : World) (v0 : Value) (X B : Nat) (k : Nat) (a : Act) (W : World) : Prop where
  fb : FB15 v0 X B a
  s9 : a.eval (.tmp 9) = .int .i64 (k : Int)
  st : ∃ mv zs, a.eval (.tmp 8) = mv ∧ StL B wb k zs mv W
/-- What came in, beside the book. -/
structure In15 (wb : World) (X B : Nat) (xc : Cl) (xn : Nn) (l : List A15) (v0 : Value) : Prop where
  size : wb.heap.size = B
  fitC : Cl64 xc
  fitN : xn.fit
  acts : Acts15 wb v0 l
  len : l.length ≤ 9223372036854775807
  boxC : wb.heap[X]? = some (.cells #[.int .i64 xc.id, .int .i64 xc.ro, .int .i64 xc.ex, .int .i64 xc.se] 24 (0, 0))
  boxN : wb.heap[X + 1]? = some (.cells #[.int .i64 xn.b, .int .i64 xn.c] 26 (0, 0))
theorem In15.box {wb : World} {X B : Nat} {xc : Cl} {xn : Nn} {l : List A15} {v0 : Value} (h : In15 wb X B xc xn l v0) {W : World} (hb : Below B wb W) : W.heap[X]? = some (.cells #[.int .i64 xc.id, .int .i64 xc.ro, .int .i64 xc.ex, .int .i64 xc.se] 24 (0, 0)) ∧ W.heap[X + 1]? = some (.cells #[.int .i64 xn.b, .int .i64 xn.c] 26 (0, 0)) := by
  have h1 := (Array.getElem?_eq_some_iff.1 h.boxC).1
  have h2 := (Array.getElem?_eq_some_iff.1 h.boxN).1
  rw [h.size] at h1 h2
  exact ⟨(hb.block X h1).trans h.boxC, (hb.block (X + 1) h2).trans h.boxN⟩
theorem lowT (a : Int) (m : Nat) (hm : 0 < m) (hm2 : m ≤ 1073741824) : ∃ x : Nat, x < m ∧ wrap64 ((IntKind.u64.wrap a).tmod (m : Int)) = (x : Int) := by
  have h0 : 0 ≤ IntKind.u64.wrap a := by rw [IntKind.wrap_u64]; omega
  rw [Int.tmod_eq_emod_of_nonneg h0]
  generalize IntKind.u64.wrap a = z at h0
  have h1 := Int.emod_lt_of_pos z (show (0 : Int) < (m : Int) by omega)
  have h2 := Int.emod_nonneg z (show (m : Int) ≠ 0 by omega)
  refine ⟨(z % (m : Int)).toNat, by omega, ?_⟩
  rw [IntWalk.wrap64_in _ (by omega)]
  omega
theorem kind6 (x : Int) : (IntKind.u64.wrap x).tmod 6 = 0 ∨ (IntKind.u64.wrap x).tmod 6 = 1 ∨ (IntKind.u64.wrap x).tmod 6 = 2 ∨ (IntKind.u64.wrap x).tmod 6 = 3 ∨ (IntKind.u64.wrap x).tmod 6 = 4 ∨ (IntKind.u64.wrap x).tmod 6 = 5 := by
  have h1 : 0 ≤ IntKind.u64.wrap x := by rw [IntKind.wrap_u64]; omega
  rw [Int.tmod_eq_emod_of_nonneg h1]
  omega
theorem cells9 {W : World} {A : Nat} {T : TypeId} {u0 u1 u2 u3 u4 u5 u6 u7 u8 : Value} (h : W.heap[A]? = some (.cells #[u0, u1, u2, u3, u4, u5, u6, u7, u8] T (0, 0))) : W.cell? ⟨A, 0, none⟩ = some u0 ∧ W.cell? ⟨A, 1, none⟩ = some u1 ∧ W.cell? ⟨A, 2, none⟩ = some u2 ∧ W.cell? ⟨A, 3, none⟩ = some u3 ∧ W.cell? ⟨A, 4, none⟩ = some u4 ∧ W.cell? ⟨A, 5, none⟩ = some u5 ∧ W.cell? ⟨A, 6, none⟩ = some u6 ∧ W.cell? ⟨A, 7, none⟩ = some u7 ∧ W.cell? ⟨A, 8, none⟩ = some u8 :=
  ⟨by rw [cell_of_row _ _ _ _ _ _ h]; rfl, by rw [cell_of_row _ _ _ _ _ _ h]; rfl, by rw [cell_of_row _ _ _ _ _ _ h]; rfl, by rw [cell_of_row _ _ _ _ _ _ h]; rfl, by rw [cell_of_row _ _ _ _ _ _ h]; rfl, by rw [cell_of_row _ _ _ _ _ _ h]; rfl, by rw [cell_of_row _ _ _ _ _ _ h]; rfl, by rw [cell_of_row _ _ _ _ _ _ h]; rfl, by rw [cell_of_row _ _ _ _ _ _ h]; rfl⟩
theorem cells4' {W : World} {A : Nat} {T : TypeId} {u0 u1 u2 u3 : Value} (h : W.heap[A]? = some (.cells #[u0, u1, u2, u3] T (0, 0))) : W.cell? ⟨A, 0, none⟩ = some u0 ∧ W.cell? ⟨A, 1, none⟩ = some u1 ∧ W.cell? ⟨A, 2, none⟩ = some u2 ∧ W.cell? ⟨A, 3, none⟩ = some u3 :=
  ⟨by rw [cell_of_row _ _ _ _ _ _ h]; rfl, by rw [cell_of_row _ _ _ _ _ _ h]; rfl, by rw [cell_of_row _ _ _ _ _ _ h]; rfl, by rw [cell_of_row _ _ _ _ _ _ h]; rfl⟩
theorem cells2' {W : World} {A : Nat} {T : TypeId} {u0 u1 : Value} (h : W.heap[A]? = some (.cells #[u0, u1] T (0, 0))) : W.cell? ⟨A, 0, none⟩ = some u0 ∧ W.cell? ⟨A, 1, none⟩ = some u1 :=
  ⟨by rw [cell_of_row _ _ _ _ _ _ h]; rfl, by rw [cell_of_row _ _ _ _ _ _ h]; rfl⟩
theorem rng9 {W : World} {g o : Nat} {u0 u1 u2 u3 u4 u5 u6 u7 u8 : Value} (h : W.rangeAt g o [u0, u1, u2, u3, u4, u5, u6, u7, u8]) : W.cell? ⟨g, o, none⟩ = some u0 ∧ W.cell? ⟨g, o + 1, none⟩ = some u1 ∧ W.cell? ⟨g, o + 2, none⟩ = some u2 ∧ W.cell? ⟨g, o + 3, none⟩ = some u3 ∧ W.cell? ⟨g, o + 4, none⟩ = some u4 ∧ W.cell? ⟨g, o + 5, none⟩ = some u5 ∧ W.cell? ⟨g, o + 6, none⟩ = some u6 ∧ W.cell? ⟨g, o + 7, none⟩ = some u7 ∧ W.cell? ⟨g, o + 8, none⟩ = some u8 := ⟨h 0 _ rfl, h 1 _ rfl, h 2 _ rfl, h 3 _ rfl, h 4 _ rfl, h 5 _ rfl, h 6 _ rfl, h 7 _ rfl, h 8 _ rfl⟩
end Go.Proofs.Ytdbdpehagkglfaa
namespace Go.Proofs.Ytdbdpehagkglfaa
open Go Go.RowKit
set_option maxRecDepth 100000 in
set_option maxHeartbeats 4000000 in
theorem round15_0 (wb : World) (X B : Nat) (xc : Cl) (xn : Nn) (l : List A15) (v0 : Value) (hin : In15 wb X B xc xn l v0) (Q : Exit → Act → World → Prop) (k : Nat) (a : Act) (wr : World) (hk : k < l.length) (hk5 : k < 50) (h : IL15 wb v0 X B k a wr) (hkd : (IntKind.u64.wrap (l.getD k A15.zero).kd).tmod 6 = 0) :
    Code.wp Try.prog (loopAt (Try.f3.body) 0) (Exit.then (fun a' w' => IL15 wb v0 X B (k + 1) a' w') Q) a wr := by
  obtain ⟨hf, s9, mv, zs, s8, hS⟩ := h
  obtain ⟨b, o, cap, rfl⟩ := hin.acts.start (by omega)
  obtain ⟨vb, hr, hkb, -, -, hc64, hkl, hnf⟩ := hin.acts.at_ k hk
  have HBX := Bx.mk fun W (hb : Below B wb W) => hin.box hb
  have HTl := Bx.mk fun (m : Nat) (zs : List Zz) (mv : Value) (W : World) (h : StL B wb m zs mv W) (hm : m ≤ 1000) => tells_any B wb m zs mv xc hin.fitC xn hin.fitN W h hm
  obtain ⟨na, hna⟩ : ∃ na, l.length = na := ⟨_, rfl⟩
  have hlen := hin.len
  have hsz := hin.size
  rw [hna] at hk hf hlen ⊢
  clear hin
  generalize l.getD k A15.zero = ac at *
  obtain ⟨kd, tk, ⟨ci, cr, cx, cq⟩, kk, ⟨pb, pc⟩⟩ := ac
  obtain ⟨xi, xr, xx, xq⟩ := xc
  obtain ⟨xb, xc⟩ := xn
  simp only at hr hkb hc64 hkl hnf hkd HBX
  obtain ⟨tt, ht, et⟩ := lowT tk 1073741824 (by omega) (by omega)
  have et : wrap64 ((IntKind.u64.wrap tk).tmod 1073741824) = (tt : Int) := et
  have HT30 : Bx ((0 : Int) ≤ (tt : Int) ∧ (tt : Int) ≤ 1073741824) := Bx.mk ⟨by omega, by omega⟩
  have HC64 := Bx.mk (And.intro hc64 hnf)
  obtain ⟨ka, kcap, hvb, hkcap, hkno⟩ := bytes_form hkb
  obtain ⟨kl, hkl'⟩ : ∃ kl, kk.length = kl := ⟨_, rfl⟩
  rw [hkl'] at hvb hkcap hkl
  subst hvb
  obtain ⟨km, hkm⟩ : ∃ km, km = min kl 40 := ⟨_, rfl⟩
  have m1 : min (kl : Int) 40 = (km : Int) := by omega
  have s1 := fun W => cut_bytes ka kl kcap km (by omega) hkcap hkno W
  have HKm : Bx (km ≤ 40 ∧ km ≤ kl) := Bx.mk ⟨by omega, by omega⟩
  have HKB : Bx (∀ W, Below B wb W → Bytes W (.slice ka km kcap) (kk.take km) ∧ (kk.take km).length ≤ 40) := Bx.mk fun W hb => ⟨(hkb.take km (by omega)).later (by rw [hsz]; exact hb), by rw [List.length_take]; omega⟩
  have hB0 : B ≤ wr.heap.size := by rw [← hsz]; exact hS.below.size
  have hrw := rng_later hr (by rw [hsz]; exact hS.below)
  obtain ⟨d0, d1, d2, d3, d4, d5, d6, d7, d8⟩ := rng9 hrw
  have HTo := Bx.mk fun W => cto_any ⟨ci, cr, cx, cq⟩ W
  have k1 : (k : Int) < 50 := by omega
  have k2 : (k : Int) < (na : Int) := by omega
  have k0 : (0 : Int) ≤ (k : Int) := by omega
  have n1 : (na : Int) ≤ 9223372036854775807 := by omega
  have l1 : (kl : Int) ≤ 9223372036854775807 := by omega
  have hwk : IntKind.i64.wrap ((k : Int) + 1) = (k : Int) + 1 := by simp [IntKind.wrap_i64]; omega
  have HK := Bx.mk (show k ≤ 1000 by omega)
  obtain ⟨ma, mk, mc, rfl⟩ := hS.form
  have HSz := Bx.mk hsz
  have R1 : Bx (StL B wb k zs (.slice ma mk mc) (wr.alloc (.cells #[.int .i64 kd, .int .i64 tk, .int .i64 ci, .int .i64 cr, .int .i64 cx, .int .i64 cq, .slice ka kl kcap, .int .i64 pb, .int .i64 pc] 32)) ∧ (wr.alloc (.cells #[.int .i64 kd, .int .i64 tk, .int .i64 ci, .int .i64 cr, .int .i64 cx, .int .i64 cq, .slice ka kl kcap, .int .i64 pb, .int .i64 pc] 32)).heap[wr.heap.size]? = some (.cells #[.int .i64 kd, .int .i64 tk, .int .i64 ci, .int .i64 cr, .int .i64 cx, .int .i64 cq, .slice ka kl kcap, .int .i64 pb, .int .i64 pc] 32 (0, 0)) ∧ B ≤ wr.heap.size) := Bx.mk ⟨hS.later hB0 (below_a _), hnew _ _ _ rfl, hB0⟩
  obtain ⟨y, rfl, hy⟩ := open227 hf.fr
  have e0 := (hy 0).symm.trans hf.s0
  have e4 := (hy 4).symm.trans hf.s4
  have e5 := (hy 5).symm.trans hf.s5
  have e7 := (hy 7).symm.trans hf.s7
  have e8 := (hy 8).symm.trans s8
  have e9 := (hy 9).symm.trans s9
  clear hf hy s8 s9 hS hk hk5 hna hkm hkl hkl' hkcap hkno hkb hr hrw hc64 hnf ht hB0 hlen hsz
  rw [e0, e4, e5, e7, e8, e9]
  clear e0 e4 e5 e7 e8 e9
  conv => arg 2; whnf
  unfold clV at HTo
  simp only at HTo
  go_wp2_with fail
  refine (HTo.out _).mono ?_
  rintro e w2 ⟨rfl, hb⟩
  have R2 : Bx (StL B wb k zs (.slice ma mk mc) (w2.alloc (.cells #[.int .i64 ci, .int .i64 cr, .int .i64 cx, .int .i64 cq] 34)) ∧ (w2.alloc (.cells #[.int .i64 ci, .int .i64 cr, .int .i64 cx, .int .i64 cq] 34)).heap[wr.heap.size]? = some (.cells #[.int .i64 kd, .int .i64 tk, .int .i64 ci, .int .i64 cr, .int .i64 cx, .int .i64 cq, .slice ka kl kcap, .int .i64 pb, .int .i64 pc] 32 (0, 0)) ∧ (w2.alloc (.cells #[.int .i64 ci, .int .i64 cr, .int .i64 cx, .int .i64 cq] 34)).heap[w2.heap.size]? = some (.cells #[.int .i64 ci, .int .i64 cr, .int .i64 cx, .int .i64 cq] 34 (0, 0)) ∧ B ≤ (w2.alloc (.cells #[.int .i64 ci, .int .i64 cr, .int .i64 cx, .int .i64 cq] 34)).heap.size) := Bx.mk (by
    have h1 := R1.out.2.2
    have h2 : B ≤ (wr.alloc (.cells #[.int .i64 kd, .int .i64 tk, .int .i64 ci, .int .i64 cr, .int .i64 cx, .int .i64 cq, .slice ka kl kcap, .int .i64 pb, .int .i64 pc] 32)).heap.size := by rw [World.size_alloc]; omega
    have h3 := hb.size
    have h4 := (Array.getElem?_eq_some_iff.1 R1.out.2.1).1
    refine ⟨(R1.out.1.later h2 hb).later (by omega) (below_a _), ?_, hnew _ _ _ rfl, by rw [World.size_alloc]; omega⟩
    rw [hold _ _ _ (by omega)]
    exact (hb.block _ h4).trans R1.out.2.1)
  have hAne : wr.heap.size ≠ w2.heap.size := by
    have := hb.size
    have := (Array.getElem?_eq_some_iff.1 R1.out.2.1).1
    omega
  obtain ⟨a0, -, -, -, -, -, -, -, -⟩ := cells9 R2.out.2.1
  clear hb R1 HTo d0 d1 d2 d3 d4 d5 d6 d7 d8
  go_upto_region 26 with fail
  clear a0 m1 s1
  generalize hA : wr.heap.size = A at *
  generalize hY : w2.heap.size = Y at *
  generalize w2.alloc (.cells #[.int .i64 ci, .int .i64 cr, .int .i64 cx, .int .i64 cq] 34) = w3 at *
  clear hA hY hAne
  obtain ⟨er, HR0⟩ := want_pair R2.out.1 R2.out.2.2.2 ⟨ci, cr, cx, cq⟩ HC64.out.1 (tt : Int) HT30.out
  have HR := Bx.mk HR0
  clear HR0
  unfold clV ptr at HR
  simp only at HR
  have hne : (er != er) = false := by simp
  obtain ⟨-, -, a2, a3, a4, a5, -, -, -⟩ := cells9 R2.out.2.1
  have R3 : Bx (w3.heap[A]? = some (.cells #[.int .i64 kd, .int .i64 tk, .int .i64 ci, .int .i64 cr, .int .i64 cx, .int .i64 cq, .slice ka kl kcap, .int .i64 pb, .int .i64 pc] 32 (0, 0)) ∧ w3.heap[Y]? = some (.cells #[.int .i64 ci, .int .i64 cr, .int .i64 cx, .int .i64 cq] 34 (0, 0))) := Bx.mk ⟨R2.out.2.1, R2.out.2.2.1⟩
  clear R2
  go_wp2_with fail
  refine HR.out.mono ?_
  rintro e w4 ⟨a4', k4, c4, rfl, hb, HB⟩
  have HB4 := Bx.mk HB
  clear HB
  have R4 : Bx (w4.heap[A]? = some (.cells #[.int .i64 kd, .int .i64 tk, .int .i64 ci, .int .i64 cr, .int .i64 cx, .int .i64 cq, .slice ka kl kcap, .int .i64 pb, .int .i64 pc] 32 (0, 0)) ∧ w4.heap[Y]? = some (.cells #[.int .i64 ci, .int .i64 cr, .int .i64 cx, .int .i64 cq] 34 (0, 0))) := Bx.mk ⟨(hb.block A (Array.getElem?_eq_some_iff.1 R3.out.1).1).trans R3.out.1, (hb.block Y (Array.getElem?_eq_some_iff.1 R3.out.2).1).trans R3.out.2⟩
  clear hb HR R3 a2 a3 a4 a5
  obtain ⟨y0, y1, y2, y3⟩ := cells4' R4.out.2
  go_wp2_with fail
  refine (HB4.out _ (Below.refl _ _)).mono ?_
  rintro e w5 ⟨rfl, zs', hS'⟩
  have S5 := Bx.mk hS'
  clear hS' HB4 R4 y0 y1 y2 y3
  have HBx2 := HBX.out w5 S5.out.below
  obtain ⟨b0, b1, b2, b3⟩ := cells4' HBx2.1
  obtain ⟨p0, p1⟩ := cells2' HBx2.2
  have HTl2 := Bx.mk (HTl.out _ _ _ _ S5.out (by have := HK.out; omega))
  unfold ptr clV nv at HTl2
  simp only at HTl2
  clear HBx2
  go_wp2_with fail
  refine HTl2.out.mono ?_
  rintro e wz ⟨rfl, hbz⟩
  have SZ := Bx.mk ((S5.out.later (by have := S5.out.below.size; have := HSz.out; omega) hbz).more (show k ≤ k + 1 by omega))
  clear hbz b0 b1 b2 b3 p0 p1 HTl2
  go_wp2
  exact ⟨⟨⟨rfl, rfl⟩, rfl, rfl, rfl, rfl⟩, by first | rfl | go_num, _, _, rfl, SZ.out⟩
set_option maxRecDepth 100000 in
set_option maxHeartbeats 4000000 in
theorem round15_1 (wb : World) (X B : Nat) (xc : Cl) (xn : Nn) (l : List A15) (v0 : Value) (hin : In15 wb X B xc xn l v0) (Q : Exit → Act → World → Prop) (k : Nat) (a : Act) (wr : World) (hk : k < l.length) (hk5 : k < 50) (h : IL15 wb v0 X B k a wr) (hkd : (IntKind.u64.wrap (l.getD k A15.zero).kd).tmod 6 = 1) :
    Code.wp Try.prog (loopAt (Try.f3.body) 0) (Exit.then (fun a' w' => IL15 wb v0 X B (k + 1) a' w') Q) a wr := by
  obtain ⟨hf, s9, mv, zs, s8, hS⟩ := h
  obtain ⟨b, o, cap, rfl⟩ := hin.acts.start (by omega)
  obtain ⟨vb, hr, hkb, -, -, hc64, hkl, hnf⟩ := hin.acts.at_ k hk
  have HBX := Bx.mk fun W (hb : Below B wb W) => hin.box hb
  have HTl := Bx.mk fun (m : Nat) (zs : List Zz) (mv : Value) (W : World) (h : StL B wb m zs mv W) (hm : m ≤ 1000) => tells_any B wb m zs mv xc hin.fitC xn hin.fitN W h hm
  obtain ⟨na, hna⟩ : ∃ na, l.length = na := ⟨_, rfl⟩
  have hlen := hin.len
  have hsz := hin.size
  rw [hna] at hk hf hlen ⊢
  clear hin
  generalize l.getD k A15.zero = ac at *
  obtain ⟨kd, tk, ⟨ci, cr, cx, cq⟩, kk, ⟨pb, pc⟩⟩ := ac
  obtain ⟨xi, xr, xx, xq⟩ := xc
  obtain ⟨xb, xc⟩ := xn
  simp only at hr hkb hc64 hkl hnf hkd HBX
  obtain ⟨tt, ht, et⟩ := lowT tk 1073741824 (by omega) (by omega)
  have et : wrap64 ((IntKind.u64.wrap tk).tmod 1073741824) = (tt : Int) := et
  have HT30 : Bx ((0 : Int) ≤ (tt : Int) ∧ (tt : Int) ≤ 1073741824) := Bx.mk ⟨by omega, by omega⟩
  have HC64 := Bx.mk (And.intro hc64 hnf)
  obtain ⟨ka, kcap, hvb, hkcap, hkno⟩ := bytes_form hkb
  obtain ⟨kl, hkl'⟩ : ∃ kl, kk.length = kl := ⟨_, rfl⟩
  rw [hkl'] at hvb hkcap hkl
  subst hvb
  obtain ⟨km, hkm⟩ : ∃ km, km = min kl 40 := ⟨_, rfl⟩
  have m1 : min (kl : Int) 40 = (km : Int) := by omega
  have s1 := fun W => cut_bytes ka kl kcap km (by omega) hkcap hkno W
  have HKm : Bx (km ≤ 40 ∧ km ≤ kl) := Bx.mk ⟨by omega, by omega⟩
  have HKB : Bx (∀ W, Below B wb W → Bytes W (.slice ka km kcap) (kk.take km) ∧ (kk.take km).length ≤ 40) := Bx.mk fun W hb => ⟨(hkb.take km (by omega)).later (by rw [hsz]; exact hb), by rw [List.length_take]; omega⟩
  have hB0 : B ≤ wr.heap.size := by rw [← hsz]; exact hS.below.size
  have hrw := rng_later hr (by rw [hsz]; exact hS.below)
  obtain ⟨d0, d1, d2, d3, d4, d5, d6, d7, d8⟩ := rng9 hrw
  have HTo := Bx.mk fun W => cto_any ⟨ci, cr, cx, cq⟩ W
  have k1 : (k : Int) < 50 := by omega
  have k2 : (k : Int) < (na : Int) := by omega
  have k0 : (0 : Int) ≤ (k : Int) := by omega
  have n1 : (na : Int) ≤ 9223372036854775807 := by omega
  have l1 : (kl : Int) ≤ 9223372036854775807 := by omega
  have hwk : IntKind.i64.wrap ((k : Int) + 1) = (k : Int) + 1 := by simp [IntKind.wrap_i64]; omega
  have HK := Bx.mk (show k ≤ 1000 by omega)
  obtain ⟨ma, mk, mc, rfl⟩ := hS.form
  have HSz := Bx.mk hsz
  have R1 : Bx (StL B wb k zs (.slice ma mk mc) (wr.alloc (.cells #[.int .i64 kd, .int .i64 tk, .int .i64 ci, .int .i64 cr, .int .i64 cx, .int .i64 cq, .slice ka kl kcap, .int .i64 pb, .int .i64 pc] 32)) ∧ (wr.alloc (.cells #[.int .i64 kd, .int .i64 tk, .int .i64 ci, .int .i64 cr, .int .i64 cx, .int .i64 cq, .slice ka kl kcap, .int .i64 pb, .int .i64 pc] 32)).heap[wr.heap.size]? = some (.cells #[.int .i64 kd, .int .i64 tk, .int .i64 ci, .int .i64 cr, .int .i64 cx, .int .i64 cq, .slice ka kl kcap, .int .i64 pb, .int .i64 pc] 32 (0, 0)) ∧ B ≤ wr.heap.size) := Bx.mk ⟨hS.later hB0 (below_a _), hnew _ _ _ rfl, hB0⟩
  obtain ⟨y, rfl, hy⟩ := open227 hf.fr
  have e0 := (hy 0).symm.trans hf.s0
  have e4 := (hy 4).symm.trans hf.s4
  have e5 := (hy 5).symm.trans hf.s5
  have e7 := (hy 7).symm.trans hf.s7
  have e8 := (hy 8).symm.trans s8
  have e9 := (hy 9).symm.trans s9
  clear hf hy s8 s9 hS hk hk5 hna hkm hkl hkl' hkcap hkno hkb hr hrw hc64 hnf ht hB0 hlen hsz
  rw [e0, e4, e5, e7, e8, e9]
  clear e0 e4 e5 e7 e8 e9
  conv => arg 2; whnf
  unfold clV at HTo
  simp only at HTo
  go_wp2_with fail
  refine (HTo.out _).mono ?_
  rintro e w2 ⟨rfl, hb⟩
  have R2 : Bx (StL B wb k zs (.slice ma mk mc) (w2.alloc (.cells #[.int .i64 ci, .int .i64 cr, .int .i64 cx, .int .i64 cq] 34)) ∧ (w2.alloc (.cells #[.int .i64 ci, .int .i64 cr, .int .i64 cx, .int .i64 cq] 34)).heap[wr.heap.size]? = some (.cells #[.int .i64 kd, .int .i64 tk, .int .i64 ci, .int .i64 cr, .int .i64 cx, .int .i64 cq, .slice ka kl kcap, .int .i64 pb, .int .i64 pc] 32 (0, 0)) ∧ (w2.alloc (.cells #[.int .i64 ci, .int .i64 cr, .int .i64 cx, .int .i64 cq] 34)).heap[w2.heap.size]? = some (.cells #[.int .i64 ci, .int .i64 cr, .int .i64 cx, .int .i64 cq] 34 (0, 0)) ∧ B ≤ (w2.alloc (.cells #[.int .i64 ci, .int .i64 cr, .int .i64 cx, .int .i64 cq] 34)).heap.size) := Bx.mk (by
    have h1 := R1.out.2.2
    have h2 : B ≤ (wr.alloc (.cells #[.int .i64 kd, .int .i64 tk, .int .i64 ci, .int .i64 cr, .int .i64 cx, .int .i64 cq, .slice ka kl kcap, .int .i64 pb, .int .i64 pc] 32)).heap.size := by rw [World.size_alloc]; omega
    have h3 := hb.size
    have h4 := (Array.getElem?_eq_some_iff.1 R1.out.2.1).1
    refine ⟨(R1.out.1.later h2 hb).later (by omega) (below_a _), ?_, hnew _ _ _ rfl, by rw [World.size_alloc]; omega⟩
    rw [hold _ _ _ (by omega)]
    exact (hb.block _ h4).trans R1.out.2.1)
  have hAne : wr.heap.size ≠ w2.heap.size := by
    have := hb.size
    have := (Array.getElem?_eq_some_iff.1 R1.out.2.1).1
    omega
  obtain ⟨a0, -, -, -, -, -, -, -, -⟩ := cells9 R2.out.2.1
  clear hb R1 HTo d0 d1 d2 d3 d4 d5 d6 d7 d8
  go_upto_region 26 with fail
  clear a0 m1 s1
  generalize hA : wr.heap.size = A at *
  generalize hY : w2.heap.size = Y at *
  generalize w2.alloc (.cells #[.int .i64 ci, .int .i64 cr, .int .i64 cx, .int .i64 cq] 34) = w3 at *
  clear hA hY hAne
  have HR := Bx.mk (due_pair R2.out.1 R2.out.2.2.2 (tt : Int) HT30.out)
  unfold ptr at HR
  clear R2
  go_wp2_with fail
  refine HR.out.mono ?_
  rintro e w4 ⟨u1, u2, u3, rfl, HB⟩
  have HB4 := Bx.mk HB
  clear HB HR
  go_wp2_with fail
  refine HB4.out.mono ?_
  rintro e w5 ⟨q1, q2, q3, l5, zs', rfl, h1, h2, h3, hS'⟩
  have S5 := Bx.mk hS'
  have HSm := Bx.mk (lsame15 _ _ l5 _ h1 h2 h3)
  clear hS' h1 h2 h3 HB4
  go_wp2_with fail
  refine HSm.out.mono ?_
  rintro e w6 ⟨rfl, hb⟩
  have S6 := Bx.mk (S5.out.later (by have := S5.out.below.size; have := HSz.out; omega) hb)
  clear hb S5 HSm
  have HBx2 := HBX.out w6 S6.out.below
  obtain ⟨b0, b1, b2, b3⟩ := cells4' HBx2.1
  obtain ⟨p0, p1⟩ := cells2' HBx2.2
  have HTl2 := Bx.mk (HTl.out _ _ _ _ S6.out (by have := HK.out; omega))
  unfold ptr clV nv at HTl2
  simp only at HTl2
  clear HBx2
  go_wp2_with fail
  refine HTl2.out.mono ?_
  rintro e wz ⟨rfl, hbz⟩
  have SZ := Bx.mk ((S6.out.later (by have := S6.out.below.size; have := HSz.out; omega) hbz).more (show k ≤ k + 1 by omega))
  clear hbz b0 b1 b2 b3 p0 p1 HTl2
  go_wp2
  exact ⟨⟨⟨rfl, rfl⟩, rfl, rfl, rfl, rfl⟩, by first | rfl | go_num, _, _, rfl, SZ.out⟩
theorem two_row (w : World) (i r x q : Int) (T : TypeId) : RowC (w.alloc (.cells #[.int .i64 i, .int .i64 r, .int .i64 x, .int .i64 q, .int .i64 i, .int .i64 r, .int .i64 x, .int .i64 q] T)) (.slice (some ⟨w.heap.size, 0, none⟩) 2 2) [⟨i, r, x, q⟩, ⟨i, r, x, q⟩] := by
  refine .inr ⟨w.heap.size, 2, rfl, fun j hj => ?_⟩
  have hj2 : j < 2 := hj
  intro m u hu
  have hm : m < 4 := (List.getElem?_eq_some_iff.1 hu).1
  rw [cell_of_row _ _ _ _ _ _ (hnew _ _ _ rfl)]
  match j, hj2, m, hm with
  | 0, _, 0, _ => exact hu
  | 0, _, 1, _ => exact hu
  | 0, _, 2, _ => exact hu
  | 0, _, 3, _ => exact hu
  | 1, _, 0, _ => exact hu
  | 1, _, 1, _ => exact hu
  | 1, _, 2, _ => exact hu
  | 1, _, 3, _ => exact hu
set_option maxRecDepth 100000 in
set_option maxHeartbeats 4000000 in
theorem round15_4 (wb : World) (X B : Nat) (xc : Cl) (xn : Nn) (l : List A15) (v0 : Value) (hin : In15 wb X B xc xn l v0) (Q : Exit → Act → World → Prop) (k : Nat) (a : Act) (wr : World) (hk : k < l.length) (hk5 : k < 50) (h : IL15 wb v0 X B k a wr) (hkd : (IntKind.u64.wrap (l.getD k A15.zero).kd).tmod 6 = 4) :
    Code.wp Try.prog (loopAt (Try.f3.body) 0) (Exit.then (fun a' w' => IL15 wb v0 X B (k + 1) a' w') Q) a wr := by
  obtain ⟨hf, s9, mv, zs, s8, hS⟩ := h
  obtain ⟨b, o, cap, rfl⟩ := hin.acts.start (by omega)
  obtain ⟨vb, hr, hkb, -, -, hc64, hkl, hnf⟩ := hin.acts.at_ k hk
  have HBX := Bx.mk fun W (hb : Below B wb W) => hin.box hb
  have HTl := Bx.mk fun (m : Nat) (zs : List Zz) (mv : Value) (W : World) (h : StL B wb m zs mv W) (hm : m ≤ 1000) => tells_any B wb m zs mv xc hin.fitC xn hin.fitN W h hm
  obtain ⟨na, hna⟩ : ∃ na, l.length = na := ⟨_, rfl⟩
  have hlen := hin.len
  have hsz := hin.size
  rw [hna] at hk hf hlen ⊢
  clear hin
  generalize l.getD k A15.zero = ac at *
  obtain ⟨kd, tk, ⟨ci, cr, cx, cq⟩, kk, ⟨pb, pc⟩⟩ := ac
  obtain ⟨xi, xr, xx, xq⟩ := xc
  obtain ⟨xb, xc⟩ := xn
  simp only at hr hkb hc64 hkl hnf hkd HBX
  obtain ⟨tt, ht, et⟩ := lowT tk 1073741824 (by omega) (by omega)
  have et : wrap64 ((IntKind.u64.wrap tk).tmod 1073741824) = (tt : Int) := et
  have HT30 : Bx ((0 : Int) ≤ (tt : Int) ∧ (tt : Int) ≤ 1073741824) := Bx.mk ⟨by omega, by omega⟩
  have HC64 := Bx.mk (And.intro hc64 hnf)
  obtain ⟨ka, kcap, hvb, hkcap, hkno⟩ := bytes_form hkb
  obtain ⟨kl, hkl'⟩ : ∃ kl, kk.length = kl := ⟨_, rfl⟩
  rw [hkl'] at hvb hkcap hkl
  subst hvb
  obtain ⟨km, hkm⟩ : ∃ km, km = min kl 40 := ⟨_, rfl⟩
  have m1 : min (kl : Int) 40 = (km : Int) := by omega
  have s1 := fun W => cut_bytes ka kl kcap km (by omega) hkcap hkno W
  have HKm : Bx (km ≤ 40 ∧ km ≤ kl) := Bx.mk ⟨by omega, by omega⟩
  have HKB : Bx (∀ W, Below B wb W → Bytes W (.slice ka km kcap) (kk.take km) ∧ (kk.take km).length ≤ 40) := Bx.mk fun W hb => ⟨(hkb.take km (by omega)).later (by rw [hsz]; exact hb), by rw [List.length_take]; omega⟩
  have hB0 : B ≤ wr.heap.size := by rw [← hsz]; exact hS.below.size
  have hrw := rng_later hr (by rw [hsz]; exact hS.below)
  obtain ⟨d0, d1, d2, d3, d4, d5, d6, d7, d8⟩ := rng9 hrw
  have HTo := Bx.mk fun W => cto_any ⟨ci, cr, cx, cq⟩ W
  have k1 : (k : Int) < 50 := by omega
  have k2 : (k : Int) < (na : Int) := by omega
  have k0 : (0 : Int) ≤ (k : Int) := by omega
  have n1 : (na : Int) ≤ 9223372036854775807 := by omega
  have l1 : (kl : Int) ≤ 9223372036854775807 := by omega
  have hwk : IntKind.i64.wrap ((k : Int) + 1) = (k : Int) + 1 := by simp [IntKind.wrap_i64]; omega
  have HK := Bx.mk (show k ≤ 1000 by omega)
  obtain ⟨ma, mk, mc, rfl⟩ := hS.form
  have HSz := Bx.mk hsz
  have R1 : Bx (StL B wb k zs (.slice ma mk mc) (wr.alloc (.cells #[.int .i64 kd, .int .i64 tk, .int .i64 ci, .int .i64 cr, .int .i64 cx, .int .i64 cq, .slice ka kl kcap, .int .i64 pb, .int .i64 pc] 32)) ∧ (wr.alloc (.cells #[.int .i64 kd, .int .i64 tk, .int .i64 ci, .int .i64 cr, .int .i64 cx, .int .i64 cq, .slice ka kl kcap, .int .i64 pb, .int .i64 pc] 32)).heap[wr.heap.size]? = some (.cells #[.int .i64 kd, .int .i64 tk, .int .i64 ci, .int .i64 cr, .int .i64 cx, .int .i64 cq, .slice ka kl kcap, .int .i64 pb, .int .i64 pc] 32 (0, 0)) ∧ B ≤ wr.heap.size) := Bx.mk ⟨hS.later hB0 (below_a _), hnew _ _ _ rfl, hB0⟩
  obtain ⟨y, rfl, hy⟩ := open227 hf.fr
  have e0 := (hy 0).symm.trans hf.s0
  have e4 := (hy 4).symm.trans hf.s4
  have e5 := (hy 5).symm.trans hf.s5
  have e7 := (hy 7).symm.trans hf.s7
  have e8 := (hy 8).symm.trans s8
  have e9 := (hy 9).symm.trans s9
  clear hf hy s8 s9 hS hk hk5 hna hkm hkl hkl' hkcap hkno hkb hr hrw hc64 hnf ht hB0 hlen hsz
  rw [e0, e4, e5, e7, e8, e9]
  clear e0 e4 e5 e7 e8 e9
  conv => arg 2; whnf
  unfold clV at HTo
  simp only at HTo
  go_wp2_with fail
  refine (HTo.out _).mono ?_
  rintro e w2 ⟨rfl, hb⟩
  have R2 : Bx (StL B wb k zs (.slice ma mk mc) (w2.alloc (.cells #[.int .i64 ci, .int .i64 cr, .int .i64 cx, .int .i64 cq] 34)) ∧ (w2.alloc (.cells #[.int .i64 ci, .int .i64 cr, .int .i64 cx, .int .i64 cq] 34)).heap[wr.heap.size]? = some (.cells #[.int .i64 kd, .int .i64 tk, .int .i64 ci, .int .i64 cr, .int .i64 cx, .int .i64 cq, .slice ka kl kcap, .int .i64 pb, .int .i64 pc] 32 (0, 0)) ∧ (w2.alloc (.cells #[.int .i64 ci, .int .i64 cr, .int .i64 cx, .int .i64 cq] 34)).heap[w2.heap.size]? = some (.cells #[.int .i64 ci, .int .i64 cr, .int .i64 cx, .int .i64 cq] 34 (0, 0)) ∧ B ≤ (w2.alloc (.cells #[.int .i64 ci, .int .i64 cr, .int .i64 cx, .int .i64 cq] 34)).heap.size) := Bx.mk (by
    have h1 := R1.out.2.2
    have h2 : B ≤ (wr.alloc (.cells #[.int .i64 kd, .int .i64 tk, .int .i64 ci, .int .i64 cr, .int .i64 cx, .int .i64 cq, .slice ka kl kcap, .int .i64 pb, .int .i64 pc] 32)).heap.size := by rw [World.size_alloc]; omega
    have h3 := hb.size
    have h4 := (Array.getElem?_eq_some_iff.1 R1.out.2.1).1
    refine ⟨(R1.out.1.later h2 hb).later (by omega) (below_a _), ?_, hnew _ _ _ rfl, by rw [World.size_alloc]; omega⟩
    rw [hold _ _ _ (by omega)]
    exact (hb.block _ h4).trans R1.out.2.1)
  have hAne : wr.heap.size ≠ w2.heap.size := by
    have := hb.size
    have := (Array.getElem?_eq_some_iff.1 R1.out.2.1).1
    omega
  obtain ⟨a0, -, -, -, -, -, -, -, -⟩ := cells9 R2.out.2.1
  clear hb R1 HTo d0 d1 d2 d3 d4 d5 d6 d7 d8
  go_upto_region 26 with fail
  clear a0 m1 s1
  generalize hA : wr.heap.size = A at *
  generalize hY : w2.heap.size = Y at *
  generalize w2.alloc (.cells #[.int .i64 ci, .int .i64 cr, .int .i64 cx, .int .i64 cq] 34) = w3 at *
  clear hA hY hAne
  obtain ⟨F, D, hor, HF0, HR0⟩ := drop_pair R2.out.1 R2.out.2.2.2 ⟨ci, cr, cx, cq⟩ HC64.out.1
  have HF := Bx.mk HF0
  have HR := Bx.mk HR0
  have HB2 := Bx.mk R2.out.2.2.2
  clear HF0 HR0
  unfold clV at HF HR
  unfold ptr at HR
  simp only at HF HR
  obtain ⟨-, -, a2, a3, a4, a5, -, -, -⟩ := cells9 R2.out.2.1
  have R3 : Bx (w3.heap[A]? = some (.cells #[.int .i64 kd, .int .i64 tk, .int .i64 ci, .int .i64 cr, .int .i64 cx, .int .i64 cq, .slice ka kl kcap, .int .i64 pb, .int .i64 pc] 32 (0, 0)) ∧ w3.heap[Y]? = some (.cells #[.int .i64 ci, .int .i64 cr, .int .i64 cx, .int .i64 cq] 34 (0, 0))) := Bx.mk ⟨R2.out.2.1, R2.out.2.2.1⟩
  clear R2
  obtain ⟨P, hP⟩ : ∃ P, decide ((0 : Int) ≤ F) = P := ⟨_, rfl⟩
  rw [hP] at hor
  have HOr := Bx.mk hor
  clear hor
  go_wp2_with fail
  refine HF.out.mono ?_
  rintro e w4 ⟨rfl, hb⟩
  have R4 : Bx (w4.heap[A]? = some (.cells #[.int .i64 kd, .int .i64 tk, .int .i64 ci, .int .i64 cr, .int .i64 cx, .int .i64 cq, .slice ka kl kcap, .int .i64 pb, .int .i64 pc] 32 (0, 0)) ∧ w4.heap[Y]? = some (.cells #[.int .i64 ci, .int .i64 cr, .int .i64 cx, .int .i64 cq] 34 (0, 0))) := Bx.mk ⟨(hb.block A (Array.getElem?_eq_some_iff.1 R3.out.1).1).trans R3.out.1, (hb.block Y (Array.getElem?_eq_some_iff.1 R3.out.2).1).trans R3.out.2⟩
  have HL4 := Bx.mk hb
  clear hb HF R3 a2 a3 a4 a5
  obtain ⟨y0, y1, y2, y3⟩ := cells4' R4.out.2
  go_wp2_with fail
  have hb2 := below_a (W := w4) (.cells #[.int .i64 ci, .int .i64 cr, .int .i64 cx, .int .i64 cq, .int .i64 ci, .int .i64 cr, .int .i64 cx, .int .i64 cq] 34)
  refine (HR.out _ _ (HL4.out.trans (hb2.mono HL4.out.size)) (two_row w4 ci cr cx cq 34)).mono ?_
  rintro e w5 ⟨rfl, hb5, hkb5, HB⟩
  have HB5 := Bx.mk HB
  have R5 : Bx (w5.heap[A]? = some (.cells #[.int .i64 kd, .int .i64 tk, .int .i64 ci, .int .i64 cr, .int .i64 cx, .int .i64 cq, .slice ka kl kcap, .int .i64 pb, .int .i64 pc] 32 (0, 0))) := Bx.mk (hkb5.block A _ (by rw [hold _ _ _ (Array.getElem?_eq_some_iff.1 R4.out.1).1]; exact R4.out.1) (.inr (hard_cells (by decide) (by decide))))
  clear HB hb2 HR R4 y0 y1 y2 y3 HL4 hb5 hkb5
  obtain ⟨-, -, a2, a3, a4, a5, -, -, -⟩ := cells9 R5.out
  rcases HOr.out with ⟨rfl, rfl⟩ | ⟨rfl, rfl⟩
  · clear HOr
    go_wp2_with fail
    refine (HB5.out _ (Below.refl _ _)).mono ?_
    rintro e w6 ⟨u1, u2, u3, zs', rfl, hS'⟩
    have S6 := Bx.mk hS'
    clear hS' HB5 R5 a2 a3 a4 a5
    have HBx2 := HBX.out w6 S6.out.below
    obtain ⟨b0, b1, b2, b3⟩ := cells4' HBx2.1
    obtain ⟨p0, p1⟩ := cells2' HBx2.2
    have HTl2 := Bx.mk (HTl.out _ _ _ _ S6.out (by have := HK.out; omega))
    unfold ptr clV nv at HTl2
    simp only at HTl2
    clear HBx2
    go_wp2_with fail
    refine HTl2.out.mono ?_
    rintro e wz ⟨rfl, hbz⟩
    have SZ := Bx.mk ((S6.out.later (by have := S6.out.below.size; have := HSz.out; omega) hbz).more (show k ≤ k + 1 by omega))
    clear hbz b0 b1 b2 b3 p0 p1 HTl2
    go_wp2
    exact ⟨⟨⟨rfl, rfl⟩, rfl, rfl, rfl, rfl⟩, by first | rfl | go_num, _, _, rfl, SZ.out⟩
  · clear HOr
    go_wp2_with fail
    refine (HB5.out _ (Below.refl _ _)).mono ?_
    rintro e w6 ⟨u1, u2, u3, zs', rfl, hS'⟩
    have S6 := Bx.mk hS'
    clear hS' HB5 R5 a2 a3 a4 a5
    have HBx2 := HBX.out w6 S6.out.below
    obtain ⟨b0, b1, b2, b3⟩ := cells4' HBx2.1
    obtain ⟨p0, p1⟩ := cells2' HBx2.2
    have HTl2 := Bx.mk (HTl.out _ _ _ _ S6.out (by have := HK.out; omega))
    unfold ptr clV nv at HTl2
    simp only at HTl2
    clear HBx2
    go_wp2_with fail
    refine HTl2.out.mono ?_
    rintro e wz ⟨rfl, hbz⟩
    have SZ := Bx.mk ((S6.out.later (by have := S6.out.below.size; have := HSz.out; omega) hbz).more (show k ≤ k + 1 by omega))
    clear hbz b0 b1 b2 b3 p0 p1 HTl2
    go_wp2
    exact ⟨⟨⟨rfl, rfl⟩, rfl, rfl, rfl, rfl⟩, by first | rfl | go_num, _, _, rfl, SZ.out⟩
end Go.Proofs.Ytdbdpehagkglfaa
