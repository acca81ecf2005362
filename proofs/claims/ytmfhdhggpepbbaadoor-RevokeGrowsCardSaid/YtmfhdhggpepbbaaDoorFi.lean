/-
  RevokeGrows' walk: what was revoked stays so.
-/
import Derived.Test.YtmfhdhggpepbbaaDoorFh
import Derived.Test.YtmfhdhggpepbbaaDoorEq
namespace Go.Proofs.YtmfhdhggpepbbaaDoor
open Go Go.RowKit
set_option maxRecDepth 100000 in
set_option maxHeartbeats 1000000 in
theorem lastH (w : World) (P : Nat) (va : Value) (al : Option Addr) (nl cl : Nat) (hva : va = .slice al nl cl) (hn9 : nl ≤ 9223372036854775807)
    (Q : Exit → Act → World → Prop) (N : Act → World → Prop) (k : Nat) (a : Act) (wr : World) (hk : ¬ (k < nl ∧ k < 12)) (hk8 : k ≤ 12) (h : GS w P va k a wr)
    (hq : ∀ a' w', GS w P va k a' w' → Q (.exit 0) a' w') : Code.wp Tryd.prog (loopAt (Tryd.f8.body) 0) (Exit.then N Q) a wr := by
  subst hva
  have HQ := Bx.mk hq
  have HS := Bx.mk (And.intro h.below h.set)
  have hn1 : (nl : Int) ≤ 9223372036854775807 := by omega
  have hk1 : (k : Int) ≤ 12 := by omega
  obtain ⟨x, rfl, hx⟩ := open70 h.fr.fr
  have e0 := (hx 0).symm.trans h.fr.s0
  have e3 := (hx 3).symm.trans h.fr.s3
  have e4 := (hx 4).symm.trans h.fr.s4
  clear h hx hq
  rw [e0, e3, e4]
  clear e0 e3 e4
  by_cases hlt : k < nl
  · have t1 : (k : Int) < (nl : Int) := by omega
    have t2 : ¬ (k : Int) < 12 := by omega
    conv => arg 2; whnf
    go_wp2
    exact HQ.out _ _ ⟨⟨⟨rfl, rfl⟩, rfl, rfl, rfl⟩, HS.out.1, HS.out.2⟩
  · have t1 : ¬ (k : Int) < (nl : Int) := by omega
    conv => arg 2; whnf
    go_wp2
    exact HQ.out _ _ ⟨⟨⟨rfl, rfl⟩, rfl, rfl, rfl⟩, HS.out.1, HS.out.2⟩
theorem loopH (w : World) (E P : Nat) (acs : List Ac8) (al : Option Addr) (nl cl : Nat) (hA : Acts8 w (.slice al nl cl) acs) (hnl : acs.length = nl) (hE : w.heap.size = E) (hP : E ≤ P) (hF : Full w) (hf : 0 < E) (hn9 : nl ≤ 9223372036854775807)
    (Q : Exit → Act → World → Prop) (a : Act) (wr : World) (h : GS w P (.slice al nl cl) 0 a wr) (hq : ∀ k a' w', GS w P (.slice al nl cl) k a' w' → Q (.exit 0) a' w') :
    Code.wp Tryd.prog (.loop (loopAt (Tryd.f8.body) 0)) Q a wr :=
  wp_count (min nl 12) (fun k a w' => GS w P (.slice al nl cl) k a w') 0 (Nat.zero_le _) h (fun k a w' hk hI => by
    by_cases hc : bits .and .i64 (acs.getD k Ac8.zero).kd 1 = 0
    · exact roundH_rev w E P acs al nl cl hA hnl hE hP hF hf hn9 Q k a w' (by omega) (by omega) hc hI
    · exact roundH_app w E P acs al nl cl hA hnl hE hP hF hf hn9 Q k a w' (by omega) (by omega) hc hI) (fun a w' hI => lastH w P _ al nl cl rfl hn9 Q _ (min nl 12) a w' (by omega) (by omega) hI (fun a' w'' h1 => hq _ a' w'' h1))
set_option maxRecDepth 100000 in
set_option maxHeartbeats 2000000 in
theorem grows_walk (acs : List Ac8) (v : Value) (w : World) (hA : Acts8 w v acs) (hn : acs.length ≤ 9223372036854775807) (hF : Full w) (hf : 0 < w.heap.size) :
    Calls Tryd.prog 8 #[v] w fun e w' => e = .returned (.bool true) ∧ Below w.heap.size w w' := by
  obtain ⟨al, cl, rfl, -⟩ := id hA
  obtain ⟨nl, hnl⟩ : ∃ n, acs.length = n := ⟨_, rfl⟩
  rw [hnl] at hA hn ⊢
  obtain ⟨E, hE⟩ : ∃ E, w.heap.size = E := ⟨_, rfl⟩
  rw [hE] at hf
  have HL := Bx.mk (fun (P : Nat) (hP : E ≤ P) => loopH w E P acs al nl cl hA hnl hE hP hF hf hn)
  have hN := Bx.mk (new_any8 w)
  rw [hE] at hN ⊢
  have HE := Bx.mk hE
  clear hA hF hf hnl
  go_enter Tryd.func8, Tryd.ntmps8
  go_wp2_with fail
  refine hN.out.mono ?_
  rintro e w1 ⟨rfl, hs, hb, -⟩
  have S1 := Bx.mk (And.intro hs hb)
  clear hs hb hN
  go_wp2_with fail
  refine (HL.out E (Nat.le_refl _)) _ _ w1 ⟨⟨⟨rfl, rfl⟩, rfl, rfl, rfl⟩, by rw [HE.out]; exact S1.out.2, _, S1.out.1, Good.nil⟩ ?_
  intro k a2 w2 h2
  have B2 : Bx (Below E w w2) := ⟨by have := h2.below; rw [HE.out] at this; exact this⟩
  obtain ⟨z, rfl, hz⟩ := open70 h2.fr.fr
  have f0 := (hz 0).symm.trans h2.fr.s0
  have f3 := (hz 3).symm.trans h2.fr.s3
  have f4 := (hz 4).symm.trans h2.fr.s4
  clear h2 hz S1 HL
  rw [f0, f3, f4]
  clear f0 f3 f4
  go_wp2_with fail
  refine (known8_any w2).mono ?_
  rintro e w3 ⟨rfl, hb⟩
  have B3 := Bx.mk (B2.out.trans (hb.mono (by have := B2.out.size; rw [HE.out] at this; exact this)))
  clear hb B2
  go_wp2
  go_ret
  exact ⟨rfl, B3.out⟩
end Go.Proofs.YtmfhdhggpepbbaaDoor
