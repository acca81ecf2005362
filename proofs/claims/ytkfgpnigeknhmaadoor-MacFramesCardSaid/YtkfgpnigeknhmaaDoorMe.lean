/-
  The chapter's example: a tag.
-/
import Derived.Test.YtkfgpnigeknhmaaDoorMd
namespace Go.Proofs.YtkfgpnigeknhmaaDoor
open Go Go.RowKit
def jefe : List UInt8 := [74, 101, 102, 101]
def ask : List UInt8 := [119, 104, 97, 116, 32, 100, 111, 32, 121, 97, 32, 119, 97, 110, 116, 32, 102, 111, 114, 32, 110, 111, 116, 104, 105, 110, 103, 63]
def macSigns : List UInt8 := [53, 98, 100, 99, 99, 49, 52, 54, 98, 102, 54, 48, 55, 53, 52, 101, 54, 97, 48, 52, 50, 52, 50, 54, 48, 56, 57, 53, 55, 53, 99, 55, 53, 97, 48, 48, 51, 102, 48, 56, 57, 100, 50, 55, 51, 57, 56, 51, 57, 100, 101, 99, 53, 56, 98, 57, 54, 52, 101, 99, 51, 56, 52, 51]
theorem hmac_jefe : hexOf (hmac jefe ask) = macSigns := by decide +kernel
theorem const_bytes {W : World} {b n : Nat} {l : List UInt8} {fr : Nat × Nat} (h : W.heap[b]? = some (.cells (u8s l) 5 fr)) (hn : l.length = n) : Bytes W (.slice (some ⟨b, 0, none⟩) n n) l :=
  ⟨_, n, by rw [hn], by omega, (fun h => by cases h), fun _ => ⟨b, 0, rfl, fun j hj => by rw [cell_of_row _ _ _ _ _ _ h, Nat.zero_add]; exact u8s_get _ _ hj⟩⟩
set_option maxRecDepth 100000 in
set_option maxHeartbeats 1000000 in
theorem known2_any (w : World) (hTab : Tab w) (hg : 0 < w.heap.size) : Calls Tryd.prog 27 #[] w fun e w' => e = .returned (.bool true) ∧ Below w.heap.size w w' := by
  have HA := Bx.mk hTab
  clear hTab
  have kc := fun (w : World) (C : Array Value) (n c : Nat) => Lib.run_convert_bytes_const (P := Tryd.prog) w 23 5 C n c Tryd.underlying23 Tryd.underlying5
  have kc2 := kc (w.alloc (Obj.cells #[Value.int IntKind.u8 74, Value.int IntKind.u8 101, Value.int IntKind.u8 102, Value.int IntKind.u8 101] 5 (4, 5))) #[Value.int IntKind.u8 119, Value.int IntKind.u8 104, Value.int IntKind.u8 97, Value.int IntKind.u8 116, Value.int IntKind.u8 32, Value.int IntKind.u8 100, Value.int IntKind.u8 111, Value.int IntKind.u8 32, Value.int IntKind.u8 121, Value.int IntKind.u8 97, Value.int IntKind.u8 32, Value.int IntKind.u8 119, Value.int IntKind.u8 97, Value.int IntKind.u8 110, Value.int IntKind.u8 116, Value.int IntKind.u8 32, Value.int IntKind.u8 102, Value.int IntKind.u8 111, Value.int IntKind.u8 114, Value.int IntKind.u8 32, Value.int IntKind.u8 110, Value.int IntKind.u8 111, Value.int IntKind.u8 116, Value.int IntKind.u8 104, Value.int IntKind.u8 105, Value.int IntKind.u8 110, Value.int IntKind.u8 103, Value.int IntKind.u8 63] 28 28
  rw [show (w.alloc (Obj.cells #[Value.int IntKind.u8 74, Value.int IntKind.u8 101, Value.int IntKind.u8 102, Value.int IntKind.u8 101] 5 (4, 5))).heap.size = w.heap.size + 1 by simp] at kc2
  go_enter Tryd.func27, Tryd.ntmps27
  go_wp2_with fail
  obtain ⟨w1, hw1⟩ : ∃ w1, ((w.alloc (Obj.cells #[Value.int IntKind.u8 74, Value.int IntKind.u8 101, Value.int IntKind.u8 102, Value.int IntKind.u8 101] 5 (4, 5))).alloc (Obj.cells #[Value.int IntKind.u8 119, Value.int IntKind.u8 104, Value.int IntKind.u8 97, Value.int IntKind.u8 116, Value.int IntKind.u8 32, Value.int IntKind.u8 100, Value.int IntKind.u8 111, Value.int IntKind.u8 32, Value.int IntKind.u8 121, Value.int IntKind.u8 97, Value.int IntKind.u8 32, Value.int IntKind.u8 119, Value.int IntKind.u8 97, Value.int IntKind.u8 110, Value.int IntKind.u8 116, Value.int IntKind.u8 32, Value.int IntKind.u8 102, Value.int IntKind.u8 111, Value.int IntKind.u8 114, Value.int IntKind.u8 32, Value.int IntKind.u8 110, Value.int IntKind.u8 111, Value.int IntKind.u8 116, Value.int IntKind.u8 104, Value.int IntKind.u8 105, Value.int IntKind.u8 110, Value.int IntKind.u8 103, Value.int IntKind.u8 63] 5 (28, 29))).alloc (Obj.cells #[Value.slice (some ⟨w.heap.size + 1, 0, none⟩) 28 28] 23) = w1 := ⟨_, rfl⟩
  have H1 : Bx (Below w.heap.size w w1 ∧ Bytes w1 (.slice (some ⟨w.heap.size, 0, none⟩) 4 4) jefe ∧ Parts w1 (.slice (some ⟨w.heap.size + 1 + 1, 0, none⟩) 1 1) [ask]) := Bx.mk (by
    rw [← hw1]
    have b1 : Below w.heap.size w (w.alloc (Obj.cells #[Value.int IntKind.u8 74, Value.int IntKind.u8 101, Value.int IntKind.u8 102, Value.int IntKind.u8 101] 5 (4, 5))) := below_a _
    have y1 : Bytes (w.alloc (Obj.cells #[Value.int IntKind.u8 74, Value.int IntKind.u8 101, Value.int IntKind.u8 102, Value.int IntKind.u8 101] 5 (4, 5))) (.slice (some ⟨w.heap.size, 0, none⟩) 4 4) jefe := const_bytes (l := jefe) (fr := (4, 5)) (hnew _ _ _ rfl) rfl
    have s1 : (w.alloc (Obj.cells #[Value.int IntKind.u8 74, Value.int IntKind.u8 101, Value.int IntKind.u8 102, Value.int IntKind.u8 101] 5 (4, 5))).heap.size = w.heap.size + 1 := by simp
    generalize w.alloc (Obj.cells #[Value.int IntKind.u8 74, Value.int IntKind.u8 101, Value.int IntKind.u8 102, Value.int IntKind.u8 101] 5 (4, 5)) = W1 at *
    have b2 : Below W1.heap.size W1 (W1.alloc (Obj.cells #[Value.int IntKind.u8 119, Value.int IntKind.u8 104, Value.int IntKind.u8 97, Value.int IntKind.u8 116, Value.int IntKind.u8 32, Value.int IntKind.u8 100, Value.int IntKind.u8 111, Value.int IntKind.u8 32, Value.int IntKind.u8 121, Value.int IntKind.u8 97, Value.int IntKind.u8 32, Value.int IntKind.u8 119, Value.int IntKind.u8 97, Value.int IntKind.u8 110, Value.int IntKind.u8 116, Value.int IntKind.u8 32, Value.int IntKind.u8 102, Value.int IntKind.u8 111, Value.int IntKind.u8 114, Value.int IntKind.u8 32, Value.int IntKind.u8 110, Value.int IntKind.u8 111, Value.int IntKind.u8 116, Value.int IntKind.u8 104, Value.int IntKind.u8 105, Value.int IntKind.u8 110, Value.int IntKind.u8 103, Value.int IntKind.u8 63] 5 (28, 29))) := below_a _
    have y2 : Bytes (W1.alloc (Obj.cells #[Value.int IntKind.u8 119, Value.int IntKind.u8 104, Value.int IntKind.u8 97, Value.int IntKind.u8 116, Value.int IntKind.u8 32, Value.int IntKind.u8 100, Value.int IntKind.u8 111, Value.int IntKind.u8 32, Value.int IntKind.u8 121, Value.int IntKind.u8 97, Value.int IntKind.u8 32, Value.int IntKind.u8 119, Value.int IntKind.u8 97, Value.int IntKind.u8 110, Value.int IntKind.u8 116, Value.int IntKind.u8 32, Value.int IntKind.u8 102, Value.int IntKind.u8 111, Value.int IntKind.u8 114, Value.int IntKind.u8 32, Value.int IntKind.u8 110, Value.int IntKind.u8 111, Value.int IntKind.u8 116, Value.int IntKind.u8 104, Value.int IntKind.u8 105, Value.int IntKind.u8 110, Value.int IntKind.u8 103, Value.int IntKind.u8 63] 5 (28, 29))) (.slice (some ⟨w.heap.size + 1, 0, none⟩) 28 28) ask := const_bytes (l := ask) (fr := (28, 29)) (hnew _ _ _ s1.symm) rfl
    have s2 : (W1.alloc (Obj.cells #[Value.int IntKind.u8 119, Value.int IntKind.u8 104, Value.int IntKind.u8 97, Value.int IntKind.u8 116, Value.int IntKind.u8 32, Value.int IntKind.u8 100, Value.int IntKind.u8 111, Value.int IntKind.u8 32, Value.int IntKind.u8 121, Value.int IntKind.u8 97, Value.int IntKind.u8 32, Value.int IntKind.u8 119, Value.int IntKind.u8 97, Value.int IntKind.u8 110, Value.int IntKind.u8 116, Value.int IntKind.u8 32, Value.int IntKind.u8 102, Value.int IntKind.u8 111, Value.int IntKind.u8 114, Value.int IntKind.u8 32, Value.int IntKind.u8 110, Value.int IntKind.u8 111, Value.int IntKind.u8 116, Value.int IntKind.u8 104, Value.int IntKind.u8 105, Value.int IntKind.u8 110, Value.int IntKind.u8 103, Value.int IntKind.u8 63] 5 (28, 29))).heap.size = w.heap.size + 1 + 1 := by simp [s1]
    generalize W1.alloc (Obj.cells #[Value.int IntKind.u8 119, Value.int IntKind.u8 104, Value.int IntKind.u8 97, Value.int IntKind.u8 116, Value.int IntKind.u8 32, Value.int IntKind.u8 100, Value.int IntKind.u8 111, Value.int IntKind.u8 32, Value.int IntKind.u8 121, Value.int IntKind.u8 97, Value.int IntKind.u8 32, Value.int IntKind.u8 119, Value.int IntKind.u8 97, Value.int IntKind.u8 110, Value.int IntKind.u8 116, Value.int IntKind.u8 32, Value.int IntKind.u8 102, Value.int IntKind.u8 111, Value.int IntKind.u8 114, Value.int IntKind.u8 32, Value.int IntKind.u8 110, Value.int IntKind.u8 111, Value.int IntKind.u8 116, Value.int IntKind.u8 104, Value.int IntKind.u8 105, Value.int IntKind.u8 110, Value.int IntKind.u8 103, Value.int IntKind.u8 63] 5 (28, 29)) = W2 at *
    have p3 := one_part y2
    rw [s2] at p3
    exact ⟨(b1.trans (b2.mono b1.size)).trans ((below_a _).mono (Nat.le_trans b1.size b2.size)), (y1.later b2).later (below_a _), p3⟩)
  rw [hw1]
  clear hw1 kc kc2
  refine (tag_any jefe [ask] _ _ w1 H1.out.2.1 H1.out.2.2 (by show 4 ≤ _; omega) (by simp) (by show 28 ≤ _; omega) (HA.out.later H1.out.1 hg) (Nat.lt_of_lt_of_le hg H1.out.1.size)).mono ?_
  rintro e w2 ⟨rfl, hb2⟩
  have e3 : ([ask] : List (List UInt8)).flatten = ask := List.flatten_singleton
  rw [e3]
  clear e3
  have H2 : Bx (Below w.heap.size w w2) := Bx.mk (H1.out.1.trans (hb2.mono H1.out.1.size))
  have HS : Bx (hexOf (hmac jefe ask) = macSigns) := Bx.mk hmac_jefe
  have HL : Bx ((hmac jefe ask).length = 32) := Bx.mk (sha_length _)
  clear H1 hb2 HA
  generalize hmac jefe ask = out at *
  have HI : Bx ((Tryd.prog.info? 26).map (·.size) = some (u8s out).size) := Bx.mk (by rw [u8s_size, HL.out]; kernel_rfl)
  have HZ : Bx ((u8s out).size = (u8s (List.replicate 32 0)).size) := Bx.mk (by rw [u8s_size, u8s_size, HL.out]; rfl)
  go_wp2_with (refine wpList_store_var rfl 26 _ _ rfl w2 _ _ rfl (by rfl) (u8s out) (by rfl) HZ.out HI.out (one_u8s _) ?_; intro w3 hb3 hr3 hl3)
  have H3 : Bx (Below w.heap.size w w3 ∧ Bytes w3 (.slice (some ⟨w2.heap.size, 0, none⟩) 32 32) out) := Bx.mk ⟨H2.out.trans (hb3.mono H2.out.size), row_bytes hr3 HL.out⟩
  clear HI HZ hb3 hr3 hl3 H2
  refine (hex_any out _ w3 H3.out.2 (by rw [HL.out]; omega)).mono ?_
  rintro e w4 ⟨rfl, hb4⟩
  have H4 : Bx (Below w.heap.size w w4) := Bx.mk (H3.out.1.trans (hb4.mono H3.out.1.size))
  clear hb4 H3
  rw [HS.out]
  unfold macSigns
  go_wp2
  go_ret
  exact ⟨rfl, H4.out⟩
end Go.Proofs.YtkfgpnigeknhmaaDoor
