/-
  The tag of many bytes 0, reckoned: blocks of bytes 0, one behind the other.
-/
import Derived.Test.YtcaehkglfliihaaDoorSa
namespace Go.Proofs.YtcaehkglfliihaaDoor
open Go Go.RowKit
noncomputable def force {α : Type} (n : Nat) (k : Nat → α) : α := Nat.rec (k 0) (fun p _ => k (Nat.succ p)) n
theorem force_eq {α : Type} (n : Nat) (k : Nat → α) : force n k = k n := by cases n <;> rfl
def rorN (x r : Nat) : Nat := (x >>> r) ||| ((x <<< (32 - r)) % 4294967296)
def kN : List Nat := [1116352408, 1899447441, 3049323471, 3921009573, 961987163, 1508970993, 2453635748, 2870763221, 3624381080, 310598401, 607225278, 1426881987, 1925078388, 2162078206, 2614888103, 3248222580, 3835390401, 4022224774, 264347078, 604807628, 770255983, 1249150122, 1555081692, 1996064986, 2554220882, 2821834349, 2952996808, 3210313671, 3336571891, 3584528711, 113926993, 338241895, 666307205, 773529912, 1294757372, 1396182291, 1695183700, 1986661051, 2177026350, 2456956037, 2730485921, 2820302411, 3259730800, 3345764771, 3516065817, 3600352804, 4094571909, 275423344, 430227734, 506948616, 659060556, 883997877, 958139571, 1322822218, 1537002063, 1747873779, 1955562222, 2024104815, 2227730452, 2361852424, 2428436474, 2756734187, 3204031479, 3329325298]
def loN (k e f g h : Nat) : Nat := h + k + (rorN e 6 ^^^ rorN e 11 ^^^ rorN e 25) + ((e &&& f) ^^^ ((4294967295 - e) &&& g))
def hiN (a b c : Nat) : Nat := (rorN a 2 ^^^ rorN a 13 ^^^ rorN a 22) + ((a &&& b) ^^^ (a &&& c) ^^^ (b &&& c))
noncomputable def rndN {α : Type} (k : Nat → Nat → Nat → Nat → Nat → Nat → Nat → Nat → α) (l : List Nat) : Nat → Nat → Nat → Nat → Nat → Nat → Nat → Nat → α :=
  List.rec (fun a b c d e f g h => k a b c d e f g h) (fun x _ ih a b c d e f g h => force (loN x e f g h) fun lo => force ((lo + hiN a b c) % 4294967296) fun t => force ((d + lo) % 4294967296) fun e' => ih t a b c e' e f g) l
def addN (x y : Nat) : Nat := (x + y) % 4294967296
noncomputable def blkN {α : Type} (k : Nat → Nat → Nat → Nat → Nat → Nat → Nat → Nat → α) (a b c d e f g h : Nat) : α :=
  rndN (fun a' b' c' d' e' f' g' h' => force (addN a a') fun a => force (addN b b') fun b => force (addN c c') fun c => force (addN d d') fun d => force (addN e e') fun e => force (addN f f') fun f => force (addN g g') fun g => force (addN h h') fun h => k a b c d e f g h) kN a b c d e f g h
noncomputable def itN (n : Nat) : Nat → Nat → Nat → Nat → Nat → Nat → Nat → Nat → List Nat :=
  Nat.rec (fun a b c d e f g h => [a, b, c, d, e, f, g, h]) (fun _ ih => blkN ih) n
theorem rndN_cons {α : Type} (k : Nat → Nat → Nat → Nat → Nat → Nat → Nat → Nat → α) (x : Nat) (l : List Nat) (a b c d e f g h : Nat) : rndN k (x :: l) a b c d e f g h = force (loN x e f g h) fun lo => force ((lo + hiN a b c) % 4294967296) fun t => force ((d + lo) % 4294967296) fun e' => rndN k l t a b c e' e f g := rfl
theorem rorN_eq (x : BitVec 32) (r : Nat) (h : r < 32) : (x.rotateRight r).toNat = rorN x.toNat r := by
  rw [BitVec.toNat_rotateRight, Nat.mod_eq_of_lt h]
  rfl
theorem low_eq (s : Eight) (k : BitVec 32) : (low s 0 k).toNat = loN k.toNat s.e.toNat s.f.toNat s.g.toNat s.h.toNat % 4294967296 := by
  unfold low loN tur
  simp only [BitVec.toNat_add, BitVec.toNat_xor, BitVec.toNat_and, BitVec.toNat_not, rorN_eq _ 6 (by decide), rorN_eq _ 11 (by decide), rorN_eq _ 25 (by decide), Nat.reducePow, Nat.add_zero, Nat.mod_add_mod, Nat.reduceSub, show (0 : BitVec 32).toNat = 0 from rfl]
theorem high_eq (s : Eight) : (high s).toNat = hiN s.a.toNat s.b.toNat s.c.toNat % 4294967296 := by
  unfold high hiN tur
  simp only [BitVec.toNat_add, BitVec.toNat_xor, BitVec.toNat_and, rorN_eq _ 2 (by decide), rorN_eq _ 13 (by decide), rorN_eq _ 22 (by decide), Nat.reducePow]
/-- What is left to do with a state. -/
def onE {α : Type} (k : Nat → Nat → Nat → Nat → Nat → Nat → Nat → Nat → α) (s : Eight) : α := k s.a.toNat s.b.toNat s.c.toNat s.d.toNat s.e.toNat s.f.toNat s.g.toNat s.h.toNat
theorem rndN_eq {α : Type} (k : Nat → Nat → Nat → Nat → Nat → Nat → Nat → Nat → α) (l : List (BitVec 32)) (s : Eight) : onE (rndN k (l.map BitVec.toNat)) s = onE k (l.foldl (fun s x => step s 0 x) s) := by
  induction l generalizing s with
  | nil => rfl
  | cons x l ih =>
    rw [List.foldl_cons, ← ih (step s 0 x), List.map_cons]
    unfold onE
    rw [rndN_cons, force_eq, force_eq, force_eq]
    unfold step
    simp only [BitVec.toNat_add, low_eq, high_eq, Nat.reducePow, Nat.mod_add_mod, Nat.add_mod_mod]
def zer : List UInt8 := List.replicate 64 0
theorem words_zer : words zer = List.replicate 64 0 := by decide +kernel
theorem rnds_zer (s : Eight) (n : Nat) (h : n ≤ 64) : rnds zer s n = (kTab.take n).foldl (fun s x => step s 0 x) s := by
  induction n with
  | zero => rfl
  | succ n ih =>
    have hk : n < kTab.length := by show n < 64; omega
    rw [rnds, ih (by omega), List.take_succ_eq_append_getElem hk, List.foldl_append, words_zer]
    have e1 : (List.replicate 64 (0 : BitVec 32)).getD n 0 = 0 := by rw [List.getD_eq_getElem?_getD, List.getElem?_replicate]; split <;> rfl
    have e2 : kTab.getD n 0 = kTab[n] := by simp [hk]
    rw [e1, e2]
    rfl
theorem kN_is : kN = kTab.map BitVec.toNat := by decide +kernel
/-- One block more of bytes 0. -/
def mixE (s : Eight) : Eight := eightOf (mix s.list zer)
theorem mixE_is (s : Eight) : mixE s = ⟨s.a + (kTab.foldl (fun s x => step s 0 x) s).a, s.b + (kTab.foldl (fun s x => step s 0 x) s).b, s.c + (kTab.foldl (fun s x => step s 0 x) s).c, s.d + (kTab.foldl (fun s x => step s 0 x) s).d, s.e + (kTab.foldl (fun s x => step s 0 x) s).e, s.f + (kTab.foldl (fun s x => step s 0 x) s).f, s.g + (kTab.foldl (fun s x => step s 0 x) s).g, s.h + (kTab.foldl (fun s x => step s 0 x) s).h⟩ := by
  have h := rnds_zer s 64 (by omega)
  rw [show kTab.take 64 = kTab from rfl] at h
  have he : eightOf s.list = s := rfl
  unfold mixE mix
  rw [he, h]
  generalize kTab.foldl (fun s x => step s 0 x) s = r
  rfl
theorem unF {α : Type} (k : Nat → Nat → Nat → Nat → Nat → Nat → Nat → Nat → α) (s r : Eight) : onE (fun a' b' c' d' e' f' g' h' => force (addN s.a.toNat a') fun a => force (addN s.b.toNat b') fun b => force (addN s.c.toNat c') fun c => force (addN s.d.toNat d') fun d => force (addN s.e.toNat e') fun e => force (addN s.f.toNat f') fun f => force (addN s.g.toNat g') fun g => force (addN s.h.toNat h') fun h => k a b c d e f g h) r = k (addN s.a.toNat r.a.toNat) (addN s.b.toNat r.b.toNat) (addN s.c.toNat r.c.toNat) (addN s.d.toNat r.d.toNat) (addN s.e.toNat r.e.toNat) (addN s.f.toNat r.f.toNat) (addN s.g.toNat r.g.toNat) (addN s.h.toNat r.h.toNat) := by
  unfold onE
  simp only [force_eq]
theorem onE_add {α : Type} (k : Nat → Nat → Nat → Nat → Nat → Nat → Nat → Nat → α) (s r : Eight) : k (addN s.a.toNat r.a.toNat) (addN s.b.toNat r.b.toNat) (addN s.c.toNat r.c.toNat) (addN s.d.toNat r.d.toNat) (addN s.e.toNat r.e.toNat) (addN s.f.toNat r.f.toNat) (addN s.g.toNat r.g.toNat) (addN s.h.toNat r.h.toNat) = onE k ⟨s.a + r.a, s.b + r.b, s.c + r.c, s.d + r.d, s.e + r.e, s.f + r.f, s.g + r.g, s.h + r.h⟩ := by
  unfold onE
  simp only [BitVec.toNat_add, addN, Nat.reducePow]
theorem blkN_eq {α : Type} (k : Nat → Nat → Nat → Nat → Nat → Nat → Nat → Nat → α) (s : Eight) : onE (blkN k) s = onE k (mixE s) := by
  have h := rndN_eq (fun a' b' c' d' e' f' g' h' => force (addN s.a.toNat a') fun a => force (addN s.b.toNat b') fun b => force (addN s.c.toNat c') fun c => force (addN s.d.toNat d') fun d => force (addN s.e.toNat e') fun e => force (addN s.f.toNat f') fun f => force (addN s.g.toNat g') fun g => force (addN s.h.toNat h') fun h => k a b c d e f g h) kTab s
  rw [unF k s, onE_add k s, ← mixE_is s] at h
  rw [← h]
  unfold onE
  rw [← kN_is]
  unfold blkN
  rfl
/-- n times the same. -/
def iterE (f : Eight → Eight) : Nat → Eight → Eight
  | 0, s => s
  | n + 1, s => iterE f n (f s)
theorem iterE_0 (f : Eight → Eight) (s : Eight) : iterE f 0 s = s := rfl
theorem iterE_s (f : Eight → Eight) (n : Nat) (s : Eight) : iterE f (n + 1) s = iterE f n (f s) := rfl
theorem iterE_add (f : Eight → Eight) (m n : Nat) (s : Eight) : iterE f (m + n) s = iterE f n (iterE f m s) := by
  induction m generalizing s with
  | zero => rw [Nat.zero_add, iterE_0]
  | succ m ih => rw [show m + 1 + n = (m + n) + 1 by omega, iterE_s, ih, iterE_s]
theorem iterE_last (f : Eight → Eight) (n : Nat) (s : Eight) : iterE f (n + 1) s = f (iterE f n s) := by rw [iterE_add, iterE_s, iterE_0]
theorem itN_s (n : Nat) (s : Eight) : onE (itN (n + 1)) s = onE (blkN (itN n)) s := rfl
theorem itN_gen (f : Eight → Eight) (h : ∀ (k : Nat → Nat → Nat → Nat → Nat → Nat → Nat → Nat → List Nat) (s : Eight), onE (blkN k) s = onE k (f s)) (n : Nat) (s : Eight) : onE (itN n) s = (iterE f n s).list.map BitVec.toNat := by
  induction n generalizing s with
  | zero => rfl
  | succ n ih => rw [itN_s, h, ih, iterE_s]
theorem list_inj (s t : Eight) (h : s.list.map BitVec.toNat = t.list.map BitVec.toNat) : s = t := by
  obtain ⟨a, b, c, d, e, f, g, i⟩ := s
  obtain ⟨a', b', c', d', e', f', g', i'⟩ := t
  simp only [Eight.list, List.map_cons, List.map_nil, List.cons.injEq, and_true] at h
  obtain ⟨h1, h2, h3, h4, h5, h6, h7, h8⟩ := h
  rw [BitVec.eq_of_toNat_eq h1, BitVec.eq_of_toNat_eq h2, BitVec.eq_of_toNat_eq h3, BitVec.eq_of_toNat_eq h4, BitVec.eq_of_toNat_eq h5, BitVec.eq_of_toNat_eq h6, BitVec.eq_of_toNat_eq h7, BitVec.eq_of_toNat_eq h8]
theorem iter_lit (n : Nat) (s t : Eight) (h : onE (itN n) s = t.list.map BitVec.toNat) : iterE mixE n s = t := list_inj _ _ ((itN_gen mixE (fun k s => blkN_eq k s) n s).symm.trans h)
theorem list8_is (l : List (BitVec 32)) (h : l.length = 8) : (eightOf l).list = l := by
  match l, h with
  | [a, b, c, d, e, f, g, h], _ => rfl
/-- Blocks that are alike. -/
theorem hs_alike (f : Eight → Eight) (Z : List UInt8) (hf : ∀ s : Eight, mix s.list Z = (f s).list) (X : List UInt8) (k0 n : Nat) (h : ∀ j, j < n → blk (k0 + j) X = Z) : hs (k0 + n) X = (iterE f n (eightOf (hs k0 X))).list := by
  induction n with
  | zero => rw [iterE_0, list8_is _ (hs_length _ _), Nat.add_zero]
  | succ n ih =>
    have h1 := ih (fun j hj => h j (by omega))
    rw [show k0 + (n + 1) = (k0 + n) + 1 by omega, hs, h n (by omega), h1, iterE_last, hf]
theorem mixE_list (s : Eight) : mix s.list zer = (mixE s).list := by
  have h := list8_is (mix s.list zer) (by rw [mix_length]; rfl)
  exact h.symm
theorem hs_zeros (X : List UInt8) (k0 n : Nat) (h : ∀ j, j < n → blk (k0 + j) X = zer) : hs (k0 + n) X = (iterE mixE n (eightOf (hs k0 X))).list := hs_alike mixE zer mixE_list X k0 n h
theorem ch65534_0 : iterE mixE 128 ⟨1942830647, 281987416, 3906607372, 610196425, 687052276, 3425712475, 2869457341, 1897754103⟩ = ⟨1438257748, 1861686003, 1440412752, 2587274159, 2449770276, 1076400524, 970246289, 3236259554⟩ := iter_lit _ _ _ (by decide +kernel)
theorem ch65534_1 : iterE mixE 128 ⟨1438257748, 1861686003, 1440412752, 2587274159, 2449770276, 1076400524, 970246289, 3236259554⟩ = ⟨981605457, 3922303501, 684045438, 2445904049, 2280702073, 12458365, 367887452, 2775111696⟩ := iter_lit _ _ _ (by decide +kernel)
theorem ch65534_2 : iterE mixE 128 ⟨981605457, 3922303501, 684045438, 2445904049, 2280702073, 12458365, 367887452, 2775111696⟩ = ⟨375979427, 2853829758, 3077149337, 3225232592, 4178806890, 2804352397, 1989182305, 646241218⟩ := iter_lit _ _ _ (by decide +kernel)
theorem ch65534_3 : iterE mixE 128 ⟨375979427, 2853829758, 3077149337, 3225232592, 4178806890, 2804352397, 1989182305, 646241218⟩ = ⟨3383982469, 1856029617, 2569268328, 1335274996, 4190274664, 1255898121, 2212054353, 3557575669⟩ := iter_lit _ _ _ (by decide +kernel)
theorem ch65534_4 : iterE mixE 128 ⟨3383982469, 1856029617, 2569268328, 1335274996, 4190274664, 1255898121, 2212054353, 3557575669⟩ = ⟨253865427, 3716319523, 1766740243, 2577020638, 744384291, 1113149498, 1544290009, 737081500⟩ := iter_lit _ _ _ (by decide +kernel)
theorem ch65534_5 : iterE mixE 128 ⟨253865427, 3716319523, 1766740243, 2577020638, 744384291, 1113149498, 1544290009, 737081500⟩ = ⟨2961229315, 2851079759, 1934104660, 570313616, 3569393657, 251149613, 830719963, 3442783990⟩ := iter_lit _ _ _ (by decide +kernel)
theorem ch65534_6 : iterE mixE 128 ⟨2961229315, 2851079759, 1934104660, 570313616, 3569393657, 251149613, 830719963, 3442783990⟩ = ⟨3811925848, 971312397, 3030740511, 459671022, 1078734061, 4020535720, 2298263380, 1754268527⟩ := iter_lit _ _ _ (by decide +kernel)
theorem ch65534_7 : iterE mixE 127 ⟨3811925848, 971312397, 3030740511, 459671022, 1078734061, 4020535720, 2298263380, 1754268527⟩ = ⟨3168756118, 1112505219, 3888677248, 1067636585, 2496376006, 1157044551, 73439955, 4215616420⟩ := iter_lit _ _ _ (by decide +kernel)
theorem ch65534 : iterE mixE 1023 ⟨1942830647, 281987416, 3906607372, 610196425, 687052276, 3425712475, 2869457341, 1897754103⟩ = ⟨3168756118, 1112505219, 3888677248, 1067636585, 2496376006, 1157044551, 73439955, 4215616420⟩ := by
  rw [show (1023 : Nat) = 128 + (128 + (128 + (128 + (128 + (128 + (128 + 127)))))) by rfl, iterE_add, ch65534_0, iterE_add, ch65534_1, iterE_add, ch65534_2, iterE_add, ch65534_3, iterE_add, ch65534_4, iterE_add, ch65534_5, iterE_add, ch65534_6, ch65534_7]
theorem ch65535_0 : iterE mixE 128 ⟨2839513664, 1031662754, 3485366146, 4086937927, 1861260438, 3980066630, 622006052, 971623813⟩ = ⟨126276300, 3869200427, 1480038792, 3559787788, 4083194005, 1470188905, 4069656689, 731790940⟩ := iter_lit _ _ _ (by decide +kernel)
theorem ch65535_1 : iterE mixE 128 ⟨126276300, 3869200427, 1480038792, 3559787788, 4083194005, 1470188905, 4069656689, 731790940⟩ = ⟨989885041, 482600951, 1556597172, 4173999835, 4241641197, 726082605, 1606785751, 4192076201⟩ := iter_lit _ _ _ (by decide +kernel)
theorem ch65535_2 : iterE mixE 128 ⟨989885041, 482600951, 1556597172, 4173999835, 4241641197, 726082605, 1606785751, 4192076201⟩ = ⟨806913275, 1021017325, 3801255060, 303178978, 1822011039, 2194959673, 3244468397, 135331123⟩ := iter_lit _ _ _ (by decide +kernel)
theorem ch65535_3 : iterE mixE 128 ⟨806913275, 1021017325, 3801255060, 303178978, 1822011039, 2194959673, 3244468397, 135331123⟩ = ⟨3755261865, 4235806214, 1046734889, 1211931797, 123051443, 421463466, 2060954096, 3691443257⟩ := iter_lit _ _ _ (by decide +kernel)
theorem ch65535_4 : iterE mixE 128 ⟨3755261865, 4235806214, 1046734889, 1211931797, 123051443, 421463466, 2060954096, 3691443257⟩ = ⟨4163200382, 4239865777, 2699648592, 3710857820, 2725957511, 3183068118, 1004434883, 3178568090⟩ := iter_lit _ _ _ (by decide +kernel)
theorem ch65535_5 : iterE mixE 128 ⟨4163200382, 4239865777, 2699648592, 3710857820, 2725957511, 3183068118, 1004434883, 3178568090⟩ = ⟨2752609345, 3074677176, 1058658072, 1895407159, 2085133425, 4068232633, 2929168107, 3020746582⟩ := iter_lit _ _ _ (by decide +kernel)
theorem ch65535_6 : iterE mixE 128 ⟨2752609345, 3074677176, 1058658072, 1895407159, 2085133425, 4068232633, 2929168107, 3020746582⟩ = ⟨375900202, 2063020376, 19635392, 2653450533, 3110351533, 3993752049, 3915129641, 2591023419⟩ := iter_lit _ _ _ (by decide +kernel)
theorem ch65535_7 : iterE mixE 127 ⟨375900202, 2063020376, 19635392, 2653450533, 3110351533, 3993752049, 3915129641, 2591023419⟩ = ⟨274414793, 2115374060, 3551792504, 4221064976, 3293280277, 2126543189, 622184665, 2156099097⟩ := iter_lit _ _ _ (by decide +kernel)
theorem ch65535 : iterE mixE 1023 ⟨2839513664, 1031662754, 3485366146, 4086937927, 1861260438, 3980066630, 622006052, 971623813⟩ = ⟨274414793, 2115374060, 3551792504, 4221064976, 3293280277, 2126543189, 622184665, 2156099097⟩ := by
  rw [show (1023 : Nat) = 128 + (128 + (128 + (128 + (128 + (128 + (128 + 127)))))) by rfl, iterE_add, ch65535_0, iterE_add, ch65535_1, iterE_add, ch65535_2, iterE_add, ch65535_3, iterE_add, ch65535_4, iterE_add, ch65535_5, iterE_add, ch65535_6, ch65535_7]
theorem ch65536_0 : iterE mixE 128 ⟨2436204503, 845872576, 318735522, 709462547, 1023006765, 1441020051, 1881540814, 3515015743⟩ = ⟨3460364357, 1787280522, 2272849818, 3456179339, 1300858013, 1644383214, 752863511, 3091227529⟩ := iter_lit _ _ _ (by decide +kernel)
theorem ch65536_1 : iterE mixE 128 ⟨3460364357, 1787280522, 2272849818, 3456179339, 1300858013, 1644383214, 752863511, 3091227529⟩ = ⟨882491366, 3155925259, 2138217420, 3908821117, 3413373615, 1468233960, 2616400775, 3519075656⟩ := iter_lit _ _ _ (by decide +kernel)
theorem ch65536_2 : iterE mixE 128 ⟨882491366, 3155925259, 2138217420, 3908821117, 3413373615, 1468233960, 2616400775, 3519075656⟩ = ⟨2575536593, 3608549242, 915869809, 3797337364, 85217170, 331798946, 3205112356, 2356465323⟩ := iter_lit _ _ _ (by decide +kernel)
theorem ch65536_3 : iterE mixE 128 ⟨2575536593, 3608549242, 915869809, 3797337364, 85217170, 331798946, 3205112356, 2356465323⟩ = ⟨1616121032, 716745986, 2384787265, 3853925387, 1832771699, 990785339, 2211367563, 493098636⟩ := iter_lit _ _ _ (by decide +kernel)
theorem ch65536_4 : iterE mixE 128 ⟨1616121032, 716745986, 2384787265, 3853925387, 1832771699, 990785339, 2211367563, 493098636⟩ = ⟨2371791089, 40171096, 3433455609, 1240477124, 1316829353, 3601466386, 2157176334, 2117652750⟩ := iter_lit _ _ _ (by decide +kernel)
theorem ch65536_5 : iterE mixE 128 ⟨2371791089, 40171096, 3433455609, 1240477124, 1316829353, 3601466386, 2157176334, 2117652750⟩ = ⟨3116455279, 348659119, 1953767571, 3848049572, 3437593926, 1339563519, 2545308576, 3877498370⟩ := iter_lit _ _ _ (by decide +kernel)
theorem ch65536_6 : iterE mixE 128 ⟨3116455279, 348659119, 1953767571, 3848049572, 3437593926, 1339563519, 2545308576, 3877498370⟩ = ⟨4256312043, 467130654, 3273333351, 1556847443, 697689297, 1799030271, 3887310538, 316819461⟩ := iter_lit _ _ _ (by decide +kernel)
theorem ch65536_7 : iterE mixE 127 ⟨4256312043, 467130654, 3273333351, 1556847443, 697689297, 1799030271, 3887310538, 316819461⟩ = ⟨2615977740, 386699356, 2602280946, 2311471315, 4044017704, 75978130, 3198625633, 1791771314⟩ := iter_lit _ _ _ (by decide +kernel)
theorem ch65536 : iterE mixE 1023 ⟨2436204503, 845872576, 318735522, 709462547, 1023006765, 1441020051, 1881540814, 3515015743⟩ = ⟨2615977740, 386699356, 2602280946, 2311471315, 4044017704, 75978130, 3198625633, 1791771314⟩ := by
  rw [show (1023 : Nat) = 128 + (128 + (128 + (128 + (128 + (128 + (128 + 127)))))) by rfl, iterE_add, ch65536_0, iterE_add, ch65536_1, iterE_add, ch65536_2, iterE_add, ch65536_3, iterE_add, ch65536_4, iterE_add, ch65536_5, iterE_add, ch65536_6, ch65536_7]
end Go.Proofs.YtcaehkglfliihaaDoor
