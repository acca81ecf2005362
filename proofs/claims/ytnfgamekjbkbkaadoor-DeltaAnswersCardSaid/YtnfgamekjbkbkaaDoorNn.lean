/-
  DeltaAnswers' walk, over a contract of cut.
-/
import Derived.Test.YtnfgamekjbkbkaaDoorNm
import Derived.Test.YtnfgamekjbkbkaaDoorJe
namespace Go.Proofs.YtnfgamekjbkbkaaDoor
open Go Go.RowKit
theorem ans_in {l : L4} (hg : Good l) (v : V4) (n : Nat) : allS (ansL l v n).a = true ∧ allS (ansL l v n).b = true ∧ allS (ansL l v n).c = true ∧ allS (ansL l v n).d = true := by
  unfold ansL
  refine ⟨allS_of fun x hx => hg.s x ?_, allS_of fun x hx => hg.s x ?_, allS_of fun x hx => hg.s x ?_, allS_of fun x hx => hg.s x ?_⟩
  · exact .inl (List.mem_of_mem_drop (List.mem_of_mem_take hx))
  · exact .inr (.inl (List.mem_of_mem_drop (List.mem_of_mem_take hx)))
  · exact .inr (.inr (.inl (List.mem_of_mem_drop (List.mem_of_mem_take hx))))
  · exact .inr (.inr (.inr (List.mem_of_mem_drop (List.mem_of_mem_take hx))))
theorem ans_within {l : L4} (hg : Good l) {v : V4} (hok : okV v = true) (n : Nat) : withinB (lowV v l.ver) (ansL l v n) = true := by
  obtain ⟨⟨a1, a2⟩, ⟨b1, b2⟩, ⟨c1, c2⟩, d1, d2⟩ := (okV_iff v).1 hok
  refine (within_iff _ _).2 ⟨?_, ans_in hg v n⟩
  unfold lowV L4.ver
  simp only
  omega
theorem ans_most {l : L4} (hm : Most l 40) (v : V4) (n : Nat) : Most (ansL l v n) 40 := by
  have h1 := hm.a
  have h2 := hm.b
  have h3 := hm.c
  have h4 := hm.d
  unfold ansL
  refine ⟨?_, ?_, ?_, ?_⟩ <;> simp only [List.length_take, List.length_drop] <;> omega
theorem ans_sum (l : L4) (v : V4) (n : Nat) : (ansL l v n).a.length + (ansL l v n).b.length + (ansL l v n).c.length + (ansL l v n).d.length ≤ n := by
  unfold ansL tN
  simp only [List.length_take, List.length_drop]
  omega
set_option maxRecDepth 100000 in
set_option maxHeartbeats 4000000 in
theorem answers_walk (x : VV) (m : L4) (v : V4) (room : Int) (w : World) (hx : RowsI w x m) (hm : Most m 9223372036854775807) (hr2 : room ≤ 9223372036854775807) (hF : Full w) (hf : 0 < w.heap.size) (hTab : Tab w) (hG : 1 < w.heap.size)
    (hcut : 16 ≤ room → ∀ (f : V4) (x : VV) (m : L4) (W : World), Rows4 W x m → Most m 1000 → Calls Tryd.prog 67 #[.agg (dC f x), .int .i64 room] W fun e w' => ∃ u, e = .returned (.agg (dC f u)) ∧ Rows4 w' u (cutM m ((room - 16) / 2).toNat) ∧ Below W.heap.size W w') :
    Calls Tryd.prog 5 #[.agg #[x.a, x.b, x.c, x.d], .agg #[.int .i64 v.a, .int .i64 v.b, .int .i64 v.c, .int .i64 v.d], .int .i64 room] w fun e w' => e = .returned (.bool true) ∧ Below w.heap.size w w' := by
  have hgl := mkL_good m 4
  have hml := mkL_40 m
  have HKn : Bx (∀ W, Below w.heap.size w W → Calls Tryd.prog 33 #[] W fun e w' => e = .returned (.bool true) ∧ Below W.heap.size W w') := ⟨fun W h => known9_any W (hTab.later h hG) (by have := h.size; omega)⟩
  have HF : Bx (∀ W, Below w.heap.size w W → Full W ∧ 0 < W.heap.size) := ⟨fun W h => ⟨hF.later h hf, by have := h.size; omega⟩⟩
  obtain ⟨l, hl⟩ : ∃ l, mkL m 4 = l := ⟨_, rfl⟩
  rw [hl] at hgl hml
  cases hk : okV v with
  | false =>
    refine head9 x m l L4.nil v V4.zero room 10 (· = VV.nil) w hl hx hm ⟨fun pp W _ _ => (answer_range v pp room W hk).mono fun e w' ⟨he, hb⟩ => ⟨VV.nil, he, rfl, Rows4.nil _, hb⟩⟩ ⟨fun E D pp qq u a W hE hp hK hq hP hu => ?_⟩
    subst hE
    subst hP
    exact endR w _ D pp qq v room hk HKn a W hp ⟨hK⟩
  | true =>
    by_cases hr : room < 16
    · refine head9 x m l L4.nil v V4.zero room 2 (· = VV.nil) w hl hx hm ⟨fun pp W _ _ => (answer_long v pp room W hk hr).mono fun e w' ⟨he, hb⟩ => ⟨VV.nil, he, rfl, Rows4.nil _, hb⟩⟩ ⟨fun E D pp qq u a W hE hp hK hq hP hu => ?_⟩
      subst hE
      subst hP
      exact endG w _ D pp qq v room hk hr HKn a W hp ⟨hK⟩
    · refine head9 x m l (ansL l v ((room - 16) / 2).toNat) v (lowV v l.ver) room 0 (fun _ => True) w hl hx hm ⟨fun pp W _ hs => (answer_ok v pp l room W hs hgl hk (by omega) (hcut (by omega))).mono fun e w' ⟨u, he, hu, hb⟩ => ⟨u, he, trivial, hu, hb⟩⟩ ⟨fun E D pp qq u a W hE hp hK hq hP hu => ?_⟩
      subst hE
      have hsum := ans_sum l v ((room - 16) / 2).toNat
      exact endO w _ D pp qq v _ l _ u room hk (by omega) hr2 rfl rfl hgl (ans_within hgl hk _) (ans_most hml v _) (by omega) HKn HF a W hp ⟨hK⟩ hq hu
end Go.Proofs.YtnfgamekjbkbkaaDoor
