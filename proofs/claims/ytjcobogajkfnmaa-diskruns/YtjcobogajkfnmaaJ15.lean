/-
  Of the proof: parts Cut, Lay, Writer, Reader, LSum, Ref, Ref2, Lend.
-/
import Derived.Laws.BitsAllLaws
import Derived.Test.YtjcobogajkfnmaaJ3
import Derived.Test.YtjcobogajkfnmaaJ1

/-
  The reader's inner function 'cut'.
-/
namespace Go.Proofs.Ytjcobogajkfnmaa
open Go.RowKit

theorem cut_bits (V b u k got : Nat) (hV : V < 2 ^ got) (hb : b < 256) (hk : k ≤ 8) (hg : got + k ≤ 32) :
    bits .or .u32 (V : Int) (bits .and .u32 ((b : Int) % 4294967296 / 2 ^ u) ((2 ^ k - 1) % 4294967296) * 2 ^ got % 4294967296) = ((V + 2 ^ got * (b / 2 ^ u % 2 ^ k) : Nat) : Int) := by
  have hk2 : 2 ^ k ≤ 2 ^ 8 := Nat.pow_le_pow_right (by omega) hk
  have hk0 : 0 < 2 ^ k := Nat.two_pow_pos k
  have e1 : ((b : Int) % 4294967296 / 2 ^ u) = ((b / 2 ^ u : Nat) : Int) := by
    rw [show ((b : Int) % 4294967296) = (b : Int) by omega]; simp
  have e2 : (((2 : Int) ^ k - 1) % 4294967296) = ((2 ^ k - 1 : Nat) : Int) := by
    have : ((2 : Int) ^ k) = ((2 ^ k : Nat) : Int) := by simp
    rw [this]
    omega
  have h1 : b / 2 ^ u < 4294967296 := Nat.lt_of_le_of_lt (Nat.div_le_self _ _) (by omega)
  have h2 : 2 ^ k - 1 < 4294967296 := by omega
  rw [e1, e2, u32_and_nat _ _ h1 h2, and_mask]
  have hm : b / 2 ^ u % 2 ^ k < 2 ^ k := Nat.mod_lt _ hk0
  have hlt : b / 2 ^ u % 2 ^ k * 2 ^ got < 4294967296 := by
    have h3 : b / 2 ^ u % 2 ^ k * 2 ^ got < 2 ^ k * 2 ^ got := Nat.mul_lt_mul_of_pos_right hm (Nat.two_pow_pos _)
    have h4 : 2 ^ k * 2 ^ got ≤ 2 ^ 32 := by rw [← Nat.pow_add]; exact Nat.pow_le_pow_right (by omega) (by omega)
    omega
  have e3 : (((b / 2 ^ u % 2 ^ k : Nat) : Int) * 2 ^ got % 4294967296) = ((b / 2 ^ u % 2 ^ k * 2 ^ got : Nat) : Int) := by
    have : ((2 : Int) ^ got) = ((2 ^ got : Nat) : Int) := by simp
    rw [this, ← Int.natCast_mul]
    omega
  have hV32 : V < 4294967296 := by
    have : 2 ^ got ≤ 2 ^ 32 := Nat.pow_le_pow_right (by omega) (by omega)
    omega
  rw [e3, u32_or_nat _ _ hV32 hlt, Nat.mul_comm, or_add _ _ _ hV]

theorem cut_rel {w wr : World} {p : Nat} {s : Value} {bs : List Nat} {c n got k gk nq V b : Nat} (hs : St wr p s bs (c + got)) (hkp : Kept (· = p) w wr) (hlt : (c + got) / 8 < bs.length) (hb : b = bs[(c + got) / 8]) (hV : V = n256 bs / 2 ^ c % 2 ^ got)
    (hk : (c + got) % 8 + k ≤ 8) (hkn : got + k ≤ n) (hn : n ≤ 32) (hgk : n - (got + k) ≤ gk) {M G C : Int} (hM : M = bits .or .u32 (V : Int) (bits .and .u32 ((b : Int) % 4294967296 / 2 ^ ((c + got) % 8)) ((2 ^ k - 1) % 4294967296) * 2 ^ got % 4294967296))
    (hG : G = ((got + k : Nat) : Int)) (hC : C = ((c + (got + k) : Nat) : Int)) :
    ∃ got' : Nat, got' ≤ n ∧ n - got' ≤ gk ∧ Value.int .u32 M = .int .u32 (n256 bs / 2 ^ c % 2 ^ got' : Nat) ∧ Value.int .i64 G = .int .i64 (got' : Nat) ∧ St ((wr.drewN nq).setCell ⟨p, 1, none⟩ (.int .i64 C)) p s bs (c + got') ∧ Kept (· = p) w ((wr.drewN nq).setCell ⟨p, 1, none⟩ (.int .i64 C)) := by
  have hb8 : b < 256 := by rw [hb]; exact hs.byte _ (List.getElem_mem _)
  have hV2 : V < 2 ^ got := by rw [hV]; exact Nat.mod_lt _ (Nat.two_pow_pos _)
  have e := cut_step bs hs.byte c got k hk hlt
  subst hG hC
  refine ⟨got + k, hkn, hgk, ?_, rfl, (hs.drewN nq).setCount _, (hkp.drewN nq).setCell _ _ (.inl rfl)⟩
  rw [hM, cut_bits V b _ k got hV2 hb8 (by omega) (by omega), ← e, hb, hV]

end Go.Proofs.Ytjcobogajkfnmaa

/-
  The writer's inner function 'lay'.
-/
namespace Go.Proofs.Ytjcobogajkfnmaa
open Go.RowKit


/-- What holds at each round's head. -/
structure Lays (w0 w : World) (p : Nat) (v0 : Value) (X T : Nat) (v n : Nat) (s : Value) (bs : List Nat) (c : Nat) : Prop where
  st : St w p s bs c
  kept : Kept (Fp p v0) w0 w
  own : s.ownBlock = v0.ownBlock ∨ ∀ k, s.ownBlock = some k → w0.heap.size ≤ k
  sum : n256 bs + v * 2 ^ c = X
  cnt : c + n = T
  lo : c ≤ 8 * bs.length
  hi : 8 * bs.length ≤ c + 8
  hn : 8 * bs.length = c + 8 → 0 < n
  hv : v < 2 ^ n
  hx : n256 bs < 2 ^ c

theorem lays_app {w0 wr w1 : World} {p : Nat} {v0 s v' : Value} {X T v n c nq : Nat} {bs : List Nat} (h : Lays w0 wr p v0 X T v n s bs c) (h8 : 8 * bs.length = c) (h0 : 0 < n) {o : Obj}
    (hrow : Row w1 v' (bs ++ [0])) (hg : ((wr.drewN nq).alloc o).grownBy w1 s.ownBlock)
    (hv' : v'.ownBlock = s.ownBlock ∨ v'.ownBlock = some (((wr.drewN nq).alloc o).heap.size)) :
    Lays w0 (w1.setCell ⟨p, 0, none⟩ v') p v0 X T v n v' (bs ++ [0]) c := by
  have hk1 : Kept (fun k => s.ownBlock = some k) wr w1 := (((Kept.refl _ wr).drewN nq).alloc o).grown hg (fun k e => .inl e)
  have hsz : w0.heap.size ≤ wr.heap.size := h.kept.size
  have hlt := h.st.lt
  have hv : v'.ownBlock = s.ownBlock ∨ ∀ k, v'.ownBlock = some k → wr.heap.size ≤ k := by
    rcases hv' with e | e
    · exact .inl e
    · refine .inr (fun k e' => ?_)
      rw [e] at e'
      simp at e'
      omega
  have hne : v'.ownBlock ≠ some p := by
    rcases hv with e | e
    · rw [e]; exact h.st.ne
    · intro e'; have := e p e'; omega
  refine ⟨h.st.setBytes hk1 hrow hne ?_, ?_, ?_, ?_, h.cnt, by simp; omega, by simp; omega, fun _ => h0, h.hv, ?_⟩
  · intro b hb
    rcases List.mem_append.1 hb with hb | hb
    · exact h.st.byte b hb
    · simp at hb; omega
  · refine (Kept.trans (H := Fp p v0) h.kept hk1 (fun _ _ e => e) ?_).setCell _ _ (.inl (.inl rfl))
    intro x hx e
    rcases h.own with e' | e'
    · exact .inr (by rw [← e', e])
    · have := e' x e; omega
  · rcases hv with e | e
    · rw [e]; exact h.own
    · exact .inr (fun k e' => Nat.le_trans hsz (e k e'))
  · rw [n256_append]; simpa [n256] using h.sum
  · rw [n256_append]; simpa [n256] using h.hx

theorem lays_end {w0 wr : World} {p : Nat} {v0 s : Value} {X T v c : Nat} {bs : List Nat} (h : Lays w0 wr p v0 X T v 0 s bs c) (nq : Nat) : Lays w0 (wr.drewN nq) p v0 X T 0 0 s bs T := by
  have e : T = c := by have := h.cnt; omega
  have hv : v = 0 := by have := h.hv; simp at this; exact this
  subst e hv
  exact ⟨h.st.drewN nq, h.kept.drewN nq, h.own, h.sum, rfl, h.lo, h.hi, h.hn, by simp, h.hx⟩

theorem lays_put {w0 wr : World} {p : Nat} {v0 : Value} {X T v n c g cap b free : Nat} {bs : List Nat} (h : Lays w0 wr p v0 X T v n (.slice (some ⟨g, 0, none⟩) (bs.length + 1) cap) (bs ++ [b]) c)
    (hf : c + free = 8 * (bs.length + 1)) (hf0 : 0 < free) (hn : 0 < n) (nq : Nat) :
    Lays w0 (((wr.drewN nq).setCell ⟨g, bs.length, none⟩ (.int .u8 (b ||| (v * 2 ^ (8 - free) % 256) : Nat))).setCell ⟨p, 1, none⟩ (.int .i64 (c + min free n : Nat))) p v0 X T (v / 2 ^ min free n) (n - min free n)
      (.slice (some ⟨g, 0, none⟩) (bs.length + 1) cap) (bs ++ [b ||| (v * 2 ^ (8 - free) % 256)]) (c + min free n) := by
  have hf8 : free ≤ 8 := by have := h.hi; simp at this; omega
  have hb := last_lt bs b c free (by omega) hf8 h.hx
  have hx : b ||| (v * 2 ^ (8 - free) % 256) = b + 2 ^ (8 - free) * (v % 2 ^ free) := by rw [shl_byte v free hf8]; exact or_add _ _ _ hb
  have hx8 : b ||| (v * 2 ^ (8 - free) % 256) < 256 := by
    have h1 : b < 2 ^ 8 := h.st.byte b (by simp)
    have h2 : v * 2 ^ (8 - free) % 256 < 2 ^ 8 := Nat.mod_lt _ (by decide)
    exact Nat.or_lt_two_pow h1 h2
  have hrow0 : Row wr (.slice (some ⟨g, 0, none⟩) (bs.length + 1) cap) (bs ++ [b]) := h.st.row
  have hst := World.ownsRow.stored (n := bs.length + 1) (by simpa [Row] using hrow0) bs.length (.int .u8 (b ||| (v * 2 ^ (8 - free) % 256) : Nat))
  have hrow1 : Row (wr.setCell ⟨g, bs.length, none⟩ (.int .u8 (b ||| (v * 2 ^ (8 - free) % 256) : Nat))) (.slice (some ⟨g, 0, none⟩) (bs.length + 1) cap) (bs ++ [b ||| (v * 2 ^ (8 - free) % 256)]) := by
    have := hst.1
    rw [List.set_append_right _ _ (by simp)] at this
    simpa [Row, byteV] using this
  have hgp : g ≠ p := by have := h.st.ne; simpa [Value.ownBlock] using this
  have hk1 : Kept (· = g) wr (wr.setCell ⟨g, bs.length, none⟩ (.int .u8 (b ||| (v * 2 ^ (8 - free) % 256) : Nat))) := (Kept.refl _ wr).setCell _ _ (.inl rfl)
  have hs1 : St (wr.setCell ⟨g, bs.length, none⟩ (.int .u8 (b ||| (v * 2 ^ (8 - free) % 256) : Nat))) p (.slice (some ⟨g, 0, none⟩) (bs.length + 1) cap) (bs ++ [b ||| (v * 2 ^ (8 - free) % 256)]) c := by
    refine ⟨hk1.cell h.st.cb (Ne.symm hgp), hk1.cell h.st.cc (Ne.symm hgp), (hk1.frozen h.st.lt (Ne.symm hgp)).trans h.st.fb, (hk1.frozen h.st.lt (Ne.symm hgp)).trans h.st.fc, hrow1, h.st.ne, ?_⟩
    intro y hy
    rcases List.mem_append.1 hy with hy | hy
    · exact h.st.byte y (by simp [hy])
    · simp at hy; subst hy; exact hx8
  have hsum : n256 (bs ++ [b ||| (v * 2 ^ (8 - free) % 256)]) = n256 (bs ++ [b]) + 2 ^ c * (v % 2 ^ free) := by rw [hx]; exact last_set bs b c free _ (by omega) hf8
  refine ⟨(hs1.setCount (c + min free n)).drewN nq, ?_, h.own, ?_, ?_, ?_, ?_, ?_, ?_, ?_⟩
  · have hk2 := (Kept.refl (Fp p v0) (wr.setCell ⟨g, bs.length, none⟩ (.int .u8 (b ||| (v * 2 ^ (8 - free) % 256) : Nat)))).setCell ⟨p, 1, none⟩ (.int .i64 (c + min free n : Nat)) (.inl (.inl rfl))
    refine (Kept.trans (H := Fp p v0) ?_ hk2 (fun _ _ e => e) (fun _ _ e => e)).drewN nq
    refine Kept.trans (H := Fp p v0) h.kept hk1 (fun _ _ e => e) ?_
    intro x hx' e
    rcases h.own with e' | e'
    · exact .inr (by rw [← e', e]; rfl)
    · have := e' x (by rw [e]; rfl); omega
  · rw [hsum, lay_step _ _ _ _ _ h.hv]; exact h.sum
  · have := h.cnt; omega
  · simp; omega
  · simp; omega
  · intro e; simp at e; omega
  · have hv := h.hv
    rw [Nat.div_lt_iff_lt_mul (Nat.two_pow_pos _), ← Nat.pow_add, show n - min free n + min free n = n by omega]
    exact hv
  · rw [hsum, Nat.pow_add]
    have h1 := h.hx
    have h2 : v % 2 ^ free < 2 ^ min free n := by
      by_cases hfn : free ≤ n
      · rw [Nat.min_eq_left hfn]; exact Nat.mod_lt _ (Nat.two_pow_pos _)
      · rw [Nat.min_eq_right (by omega)]; exact Nat.lt_of_le_of_lt (Nat.mod_le _ _) h.hv
    have h3 : 2 ^ c * (v % 2 ^ free + 1) ≤ 2 ^ c * 2 ^ min free n := Nat.mul_le_mul_left _ h2
    rw [Nat.mul_add] at h3
    omega

theorem lays_rel {w0 wr : World} {p : Nat} {v0 s : Value} {X T v n c g cap b free m k : Nat} {bs bs1 : List Nat} (h : Lays w0 wr p v0 X T v n s bs1 c) (hs : s = .slice (some ⟨g, 0, none⟩) bs1.length cap) (hb : bs1 = bs ++ [b] ∧ m = bs.length)
    (hf : c + free = 8 * (m + 1)) (hf0 : 0 < free) (hn : 0 < n) (nq : Nat) {B V N C : Int} (hB : B = bits .or .u8 (b : Int) ((v : Int) * 2 ^ (8 - free) % 256)) (hV : V = (v : Int) / 2 ^ min free n) (hN : N = ((n - min free n : Nat) : Int)) (hC : C = ((c + min free n : Nat) : Int)) (hk : 2 * n - 1 ≤ k) :
    ∃ s' bs' c' v' n', Value.int .u32 V = Value.int .u32 (v' : Nat) ∧ Value.int .i64 N = Value.int .i64 (n' : Nat) ∧ (2 * n' + if c' = 8 * bs'.length then 1 else 0) ≤ k ∧
      Lays w0 (((wr.drewN nq).setCell ⟨g, m, none⟩ (.int .u8 B)).setCell ⟨p, 1, none⟩ (.int .i64 C)) p v0 X T v' n' s' bs' c' := by
  obtain ⟨rfl, rfl⟩ := hb
  rw [List.length_append, List.length_singleton] at hs
  subst hs
  have R := lays_put h hf hf0 hn nq
  have hb8 : b < 256 := h.st.byte b (by simp)
  have e : ((v : Int) * 2 ^ (8 - free) % 256) = ((v * 2 ^ (8 - free) % 256 : Nat) : Int) := by simp
  rw [e, u8_or_nat b _ hb8 (Nat.mod_lt _ (by decide))] at hB
  subst hB hN hC
  refine ⟨_, _, _, v / 2 ^ min free n, n - min free n, by rw [hV]; simp, rfl, ?_, R⟩
  split <;> omega

end Go.Proofs.Ytjcobogajkfnmaa

/-
  The writer's calls.
-/
namespace Go.Proofs.Ytjcobogajkfnmaa
open Go.RowKit

/-- A writer at block p with the bits of the number X, c of them. -/
structure Wr (w : World) (p : Nat) (s : Value) (X c : Nat) : Prop where
  ex : ∃ bs, St w p s bs c ∧ n256 bs = X ∧ c ≤ 8 * bs.length ∧ 8 * bs.length < c + 8
  lt : X < 2 ^ c

/-- Where the bytes lie: where they lay, or in new memory. -/
def Grew (w : World) (s s' : Value) : Prop := s'.ownBlock = s.ownBlock ∨ ∀ k, s'.ownBlock = some k → w.heap.size ≤ k

theorem Wr.kept {F : Nat → Prop} {w w' : World} {p : Nat} {s : Value} {X c : Nat} (h : Wr w p s X c) (hk : Kept F w w') (hn : ∀ k, Fp p s k → ¬ F k) : Wr w' p s X c := by
  obtain ⟨bs, h1, h2⟩ := h.ex
  exact ⟨⟨bs, h1.kept hk hn, h2⟩, h.lt⟩

theorem Wr.fp_lt {w : World} {p : Nat} {s : Value} {X c : Nat} (h : Wr w p s X c) {k : Nat} (hk : Fp p s k) : k < w.heap.size := by
  obtain ⟨bs, h1, _⟩ := h.ex
  exact h1.fp_lt hk























end Go.Proofs.Ytjcobogajkfnmaa

/-
  The reader's calls; the writer's Bytes; two rows of bytes held against one another.
-/
namespace Go.Proofs.Ytjcobogajkfnmaa
open Go.RowKit

theorem ret_int {k : IntKind} {a b : Int} (h : a = b) : Ending.returned (.int k a) = .returned (.int k b) := by rw [h]

































set_option maxHeartbeats 400000 in
theorem keepBytes_any (va vb : Value) (I J : Nat → Prop) (xs ys : List Nat) (w : World) (ha : Src w I va xs) (hb : Src w J vb ys) (hx : xs.length ≤ 1000000000000) (hy : ys.length ≤ 1000000000000) :
    Calls Try.prog 23 #[va, vb] w fun e w' => e = .returned (.bool (decide (xs = ys))) ∧ ∃ m, w' = w.drewN m := by
  obtain ⟨ao, ca, rfl, hsa⟩ := id ha
  obtain ⟨bo, cb, rfl, hsb⟩ := id hb
  clear ha hb
  by_cases hl : xs.length = ys.length
  · have HL : Hid (xs.length = ys.length) := hl
    have hd : ((xs.length : Int) != (ys.length : Int)) = false := by simp [hl]
    clear hl
    go_enter Try.func23, Try.ntmps23
    go_wp2
    clear hd
    go_loopg [5] xs.length (fun k i wr => ∃ j : Nat, j ≤ xs.length ∧ xs.length - j ≤ k ∧ i = .int .i64 j ∧ (∃ m, wr = w.drewN m) ∧ xs.take j = ys.take j)
    case atStart => exact ⟨0, by omega, by omega, rfl, ⟨0, rfl⟩, by simp⟩
    case round =>
      obtain ⟨j, hj, hjk, rfl, ⟨m, rfl⟩, ht⟩ := hrel
      have HT : Hid (xs.take j = ys.take j) := ht
      clear ht
      by_cases hlt : j < xs.length
      · have hlt2 : j < ys.length := by have := HL.out; omega
        obtain ⟨a, oa, rfl, _, hca⟩ := hsa (by intro e; rw [e] at hlt; simp at hlt)
        obtain ⟨b, ob, rfl, _, hcb⟩ := hsb (by intro e; rw [e] at hlt2; simp at hlt2)
        have hc1 := hca j hlt
        have hc2 := hcb j hlt2
        obtain ⟨x, hx1⟩ : ∃ x, x = xs[j] := ⟨_, rfl⟩
        obtain ⟨y, hy1⟩ : ∃ y, y = ys[j] := ⟨_, rfl⟩
        rw [← hx1] at hc1
        rw [← hy1] at hc2
        have HX : Hid (x = xs[j]) := hx1
        have HY : Hid (y = ys[j]) := hy1
        clear hca hcb hsa hsb hx1 hy1
        by_cases he : x = y
        · have hd : ((x : Int) != (y : Int)) = false := by simp [he]
          have HE : Hid (x = y) := he
          clear he
          go_wp2
          go_quiet (fail)
          go_wp2
          go_roundg (gk - 1)
          case measure => omega
          case rel => exact ⟨j + 1, by omega, by omega, by go_num, ⟨_, rfl⟩, by rw [List.take_succ_eq_append_getElem hlt, List.take_succ_eq_append_getElem hlt2, HT.out, ← HX.out, ← HY.out, HE.out]⟩
        · have hd : ((x : Int) != (y : Int)) = true := by simp; omega
          go_wp2
          go_quiet (fail)
          go_wp2
          go_ret
          refine ⟨?_, _, drewN_add _ _ _⟩
          have : ¬ xs = ys := by intro e; subst e; exact he (HX.out.trans HY.out.symm)
          simp [this]
      · clear hsa hsb
        go_wp2
        go_ret
        refine ⟨?_, _, rfl⟩
        have h1 := HT.out
        have h2 := HL.out
        rw [List.take_of_length_le (by omega), List.take_of_length_le (by omega)] at h1
        simp [h1]
  · have hd : ((xs.length : Int) != (ys.length : Int)) = true := by simp; omega
    have HL : Hid (¬ xs.length = ys.length) := hl
    clear hl
    go_enter Try.func23, Try.ntmps23
    go_wp2
    go_ret
    have : ¬ xs = ys := by intro e; exact HL.out (by rw [e])
    exact ⟨by simp [this], 0, rfl⟩

end Go.Proofs.Ytjcobogajkfnmaa

/-
  The check: little's and the reference's.
-/
namespace Go.Proofs.Ytjcobogajkfnmaa
open Go.RowKit

theorem and_one (u : Nat) (h : u < 4294967296) : bits .and .u32 (u : Int) 1 = ((u % 2 : Nat) : Int) := by
  have e := u32_and_nat u 1 h (by omega)
  rw [Nat.and_one_is_mod] at e
  exact e

theorem xor_poly (n : Nat) (h : n < 4294967296) : bits .xor .u32 (n : Int) 3988292384 = ((n ^^^ 3988292384 : Nat) : Int) := u32_xor_nat n 3988292384 h (by decide)

theorem xor_nought (n : Nat) (h : n < 4294967296) : bits .xor .u32 (n : Int) 0 = (n : Int) := by
  have e := u32_xor_nat n 0 h (by decide)
  rw [Nat.xor_zero] at e
  exact e

theorem push_of_odd (u : Nat) (h : u % 2 = 1) : push u = u / 2 ^^^ 3988292384 := by unfold push; rw [h, Nat.one_mul]
theorem push_of_even (u : Nat) (h : u % 2 = 0) : push u = u / 2 := by unfold push; rw [h, Nat.zero_mul, Nat.xor_zero]

theorem push_odd (u : Nat) (h : u < 4294967296) (h1 : u % 2 = 1) : bits .xor .u32 ((u : Int) / 2) 3988292384 = ((push u : Nat) : Int) := by
  have e2 : (u : Int) / 2 = ((u / 2 : Nat) : Int) := by omega
  rw [e2, push_of_odd u h1]
  exact xor_poly (u / 2) (by omega)

theorem push_int (u : Nat) (h : u < 4294967296) : bits .xor .u32 ((u : Int) / 2) (bits .and .u32 (u : Int) 1 * 3988292384 % 4294967296) = ((push u : Nat) : Int) := by
  rw [and_one u h]
  rcases Nat.mod_two_eq_zero_or_one u with h1 | h1
  · have e3 : ((u % 2 : Nat) : Int) * 3988292384 % 4294967296 = 0 := by rw [h1]; rfl
    have e2 : (u : Int) / 2 = ((u / 2 : Nat) : Int) := by omega
    rw [e3, e2, push_of_even u h1]
    exact xor_nought (u / 2) (by omega)
  · have e3 : ((u % 2 : Nat) : Int) * 3988292384 % 4294967296 = 3988292384 := by rw [h1]; rfl
    rw [e3]
    exact push_odd u h h1

theorem push_even (u : Nat) (h1 : u % 2 = 0) : (u : Int) / 2 = ((push u : Nat) : Int) := by
  unfold push
  rw [h1, Nat.zero_mul, Nat.xor_zero]
  omega

theorem not_int (u : Nat) (h : u < 4294967296) : bits .xor .u32 4294967295 (u : Int) = ((not32 u : Nat) : Int) := by
  have e := u32_xor_nat 4294967295 u (by omega) h
  have e2 : 4294967295 ^^^ u = not32 u := by
    have hb : (BitVec.allOnes 32 ^^^ BitVec.ofNat 32 u).toNat = (~~~ BitVec.ofNat 32 u).toNat := by rw [BitVec.allOnes_xor]
    rw [BitVec.toNat_xor, BitVec.toNat_not, BitVec.toNat_allOnes, BitVec.toNat_ofNat, Nat.mod_eq_of_lt (show u < 2 ^ 32 by omega)] at hb
    exact hb
  rw [e2] at e
  exact e











end Go.Proofs.Ytjcobogajkfnmaa

/-
  The reference's calls on rows of bits; what is written over.
-/
namespace Go.Proofs.Ytjcobogajkfnmaa
open Go.RowKit

/-- A row that came from another row by appending: what is known of it. -/
structure Grows (w w' : World) (v v' : Value) (bs : List Nat) : Prop where
  row : Row w' v' bs
  kept : Kept (fun k => v.ownBlock = some k) w w'
  own : Grew w v v'

theorem Grows.refl {w : World} {v : Value} {bs : List Nat} (h : Row w v bs) : Grows w w v v bs := ⟨h, Kept.refl _ _, .inl rfl⟩

/-- One byte more. -/
theorem Grows.app {w wr w1 : World} {v v1 v' : Value} {bs : List Nat} {x : Nat} {o : Obj} (h : Grows w wr v v1 bs) (hrow : Row w1 v' (bs ++ [x])) (hg : (wr.alloc o).grownBy w1 v1.ownBlock) (ho : v'.ownBlock = v1.ownBlock ∨ v'.ownBlock = some (wr.alloc o).heap.size) : Grows w w1 v v' (bs ++ [x]) := by
  have hsz := h.kept.size
  refine ⟨hrow, ?_, ?_⟩
  · refine Kept.grown (h.kept.alloc o) hg (fun k e => ?_)
    rcases h.own with e' | e'
    · exact .inl (by rw [← e', e])
    · exact .inr (e' k e)
  · rcases ho with e | e
    · rcases h.own with e' | e'
      · exact .inl (by rw [e, e'])
      · exact .inr (fun k hk => e' k (by rw [← e, hk]))
    · refine .inr (fun k hk => ?_)
      rw [e] at hk
      simp at hk
      omega



/-- How many noughts Align lays. -/
def gap (n : Nat) : Nat := (n + 7) / 8 * 8 - n



end Go.Proofs.Ytjcobogajkfnmaa

/-
  The reference's Bytes; what is written over.
-/
namespace Go.Proofs.Ytjcobogajkfnmaa
open Go.RowKit

theorem Grows.ofNil {w wr : World} {v v' : Value} {bs : List Nat} (h : Grows w wr v v' bs) (hv : v.ownBlock = none) : Kept (fun _ => False) w wr ∧ ∀ k, v'.ownBlock = some k → w.heap.size ≤ k := by
  refine ⟨h.kept.mono (fun x _ e => by rw [hv] at e; cases e), fun k hk => ?_⟩
  rcases h.own with e | e
  · rw [e, hv] at hk; cases hk
  · exact e k hk



/-- A byte of a row is written. -/
theorem Row.set {w : World} {g n cap : Nat} {ds : List Nat} (h : Row w (.slice (some ⟨g, 0, none⟩) n cap) ds) (j x : Nat) : Row (w.setCell ⟨g, j, none⟩ (.int .u8 x)) (.slice (some ⟨g, 0, none⟩) n cap) (ds.set j x) := by
  have hl : ds.length = n := by
    rcases h.2 with ⟨e, _⟩ | ⟨_, _, _, e, _⟩
    · simp at e
    · injection e with _ e _; exact e.symm
  subst hl
  have := (World.ownsRow.stored h j (.int .u8 x)).1
  rw [show (Value.int .u8 x) = byteV x from rfl, ← List.map_set] at this
  unfold Row
  rw [List.length_set]
  exact this

set_option maxHeartbeats 1000000 in
theorem spoil_any (w : World) (g n : Nat) (ds : List Nat) (hrow : Row w (.slice (some ⟨g, 0, none⟩) n n) ds) (hn : n ≤ 100000000) (hb : ∀ b ∈ ds, b < 256) :
    Calls Try.prog 36 #[.slice (some ⟨g, 0, none⟩) n n] w fun e w' => e = .returned (.tuple #[]) ∧ Kept (· = g) w w' := by
  have HR : Hid (Row w (.slice (some ⟨g, 0, none⟩) n n) ds) := hrow
  have HB : Hid (∀ b ∈ ds, b < 256) := hb
  clear hrow hb
  go_enter Try.func36, Try.ntmps36
  go_wp2
  go_loopg [2] n (fun k x wr => ∃ (j : Nat) (es : List Nat), j ≤ n ∧ n - j ≤ k ∧ x = .int .i64 (j : Nat) ∧ es.length = n ∧ Row wr (.slice (some ⟨g, 0, none⟩) n n) es ∧ (∀ b ∈ es, b < 256) ∧ Kept (· = g) w wr)
  case atStart =>
    have hl : ds.length = n := by
      rcases HR.out.2 with ⟨e, _⟩ | ⟨_, _, _, e, _⟩
      · simp at e
      · injection e with _ e _; exact e.symm
    exact ⟨0, ds, by omega, by omega, rfl, hl, HR.out, HB.out, Kept.refl _ _⟩
  case round =>
    obtain ⟨j, es, hj, hjk, rfl, hl, hr, hb, hk⟩ := hrel
    have HR2 : Hid (Row wr (.slice (some ⟨g, 0, none⟩) n n) es) := hr
    have HB2 : Hid (∀ b ∈ es, b < 256) := hb
    have HK2 : Hid (Kept (· = g) w wr) := hk
    have HL2 : Hid (es.length = n) := hl
    by_cases hlt : j < n
    · have hje : j < es.length := by omega
      have hc : wr.cell? ⟨g, j, none⟩ = some (.int .u8 (es[j] : Nat)) := by
        have h2 := hr
        rw [← hl] at h2
        exact Row.cell h2 j hje
      have hf : wr.frozen? ⟨g, j, none⟩ = false := by
        have h2 := hr
        rw [← hl] at h2
        exact World.ownsRow.frozenAt h2 j
      obtain ⟨x, hx⟩ : ∃ x, x = es[j] := ⟨_, rfl⟩
      have hx2 : x < 256 := by rw [hx]; exact hb _ (List.getElem_mem _)
      rw [← hx] at hc
      clear hr hb hk hl hje hx
      go_wp2
      go_roundg (gk - 1)
      case measure => omega
      case rel =>
        refine ⟨j + 1, es.set j ((x + 99) % 256), by omega, by omega, by go_num, by rw [List.length_set]; exact HL2.out, ?_, ?_, HK2.out.setCell _ _ (.inl rfl)⟩
        · have h := Row.set HR2.out j ((x + 99) % 256)
          rw [show (((x + 99) % 256 : Nat) : Int) = ((x : Int) + 99) % 256 by omega] at h
          exact h
        · intro b hb
          rcases List.mem_or_eq_of_mem_set hb with h | h
          · exact HB2.out b h
          · omega
    · clear hr hb hk hl
      go_wp2
      go_end0
      exact ⟨rfl, HK2.out⟩

end Go.Proofs.Ytjcobogajkfnmaa

/-
  What is lent and comes back; a reader's More; the bits of bytes.
-/
namespace Go.Proofs.Ytjcobogajkfnmaa
open Go.RowKit

/-- append of whatever source of bytes. -/
theorem wpList_append_src {ops : Array Oper} {rest : List Oper} {o : Oper} {a : Act} {Q : Exit → Act → World → Prop} (w : World) (hgd : o.guard = none) (s x : Operand)
    (ho : o.op = .call { callee := .builtin .append, args := #[s, x], argTypes := #[33, 33] })
    (v : Value) (bs : List Nat) (hs : a.eval s = v) (hrow : Row w v bs) (I : Nat → Prop) (xv : Value) (cs : List Nat) (hx : a.eval x = xv) (hnil : ∀ n c, xv = .slice none n c → n = 0 ∧ c = 0) (hsrc : Src w I xv cs) (hlen : bs.length + cs.length ≤ 1000000000000)
    (h : ∀ v' w', Row w' v' (bs ++ cs) → w.grownBy w' v.ownBlock → (v'.ownBlock = v.ownBlock ∨ v'.ownBlock = some w.heap.size) → wpList Try.prog ops Q rest (a.put o.dst v') w') : wpList Try.prog ops Q (o :: rest) a w := by
  obtain ⟨ao, cap, rfl, hc⟩ := id hsrc
  cases ao with
  | some ad =>
    refine wpList_append_row w hgd s x ho v bs hs hrow ad cs.length cap cs hx rfl ?_ hlen h
    by_cases h0 : cs = []
    · subst h0; intro j u hu; simp at hu
    · obtain ⟨a', e, hb⟩ := (Src.at hsrc).2 h0
      injection e with e
      subst e
      exact hb
  | none =>
    obtain ⟨h0, h1⟩ := hnil _ _ rfl
    have hcs : cs = [] := List.eq_nil_of_length_eq_zero h0
    subst hcs h1
    obtain ⟨i0, hi, hz0, hz1, hz2⟩ := info_parts Try.info8
    refine wpList_plain hgd fun K hK => ?_
    have hr := run_append_owned_none (P := Try.prog) w 0 33 o.type 5 i0 1 Try.underlying33 hi v bs.length (bs.map byteV) hrow
    unfold Oper.wp execOp
    simp only [ho, resolve, invoke, builtin, Sem.run_bind, Sem.run_pure, Result.andThen_ok, List.map_toArray, List.map_cons, List.map_nil, hs, hx, List.length_nil, hr]
    exact hK _ _ (h v w (by simpa using hrow) (World.grownBy.refl _ _) (.inl rfl))



set_option maxHeartbeats 400000 in
theorem lend_any (w : World) (v : Value) (I : Nat → Prop) (cs : List Nat) (hsrc : Src w I v cs) (hlen : cs.length ≤ 100000000) :
    Calls Try.prog 43 #[v] w fun e w' => ∃ g, e = .returned (.slice (some ⟨g, 0, none⟩) cs.length (cs.length + 2)) ∧ Row w' (.slice (some ⟨g, 0, none⟩) (cs.length + 2) (cs.length + 2)) (cs ++ [165, 90]) ∧ Kept (fun _ => False) w w' ∧ w.heap.size ≤ g := by
  obtain ⟨ao, cap, rfl, _⟩ := id hsrc
  have HS : Hid (Src w I (.slice ao cs.length cap) cs) := hsrc
  clear hsrc
  go_enter Try.func43, Try.ntmps43
  go_wp2_with (first | (at_make; refine wpList_make_bytes _ rfl _ _ rfl _ _ _ _ (cs.length + 2) rfl rfl (by omega) (by omega) (by omega) ?_; intro w1 hr1 hg1 hs1; have HR : Hid (Row w1 (.slice (some ⟨w.heap.size, 0, none⟩) (cs.length + 2) (cs.length + 2)) (List.replicate (cs.length + 2) 0)) := hr1; have HK : Hid (Kept (fun _ => False) w w1) := (Kept.refl _ w).grown hg1 (by simp); clear hr1 hg1) | (with_reducible refine atCopy ?_; refine wpList_copy_bytes _ rfl (.tmp 8) (.tmp 9) rfl w.heap.size (cs.length + 2) (cs.length + 2) ao cs.length cap (List.replicate (cs.length + 2) 0) cs I rfl rfl HR.out (HS.out.kept HK.out (fun _ _ _ h => h)) (by simp) ?_))
  intro w2 hr2 hg2 hs2
  have hr2 : Row w2 (.slice (some ⟨w.heap.size, 0, none⟩) (cs.length + 2) (cs.length + 2)) (cs ++ [0, 0]) := by simpa using hr2
  have hr3 : Row w2 (.slice (some ⟨w.heap.size, 0, none⟩) (cs ++ [0, 0]).length (cs.length + 2)) (cs ++ [0, 0]) := by simpa using hr2
  have c1 : w2.cell? ⟨w.heap.size, cs.length, none⟩ = some (.int .u8 0) := by
    rw [Row.cell hr3 cs.length (by simp)]; simp
  have c2 : w2.cell? ⟨w.heap.size, cs.length + 1, none⟩ = some (.int .u8 0) := by
    rw [Row.cell hr3 (cs.length + 1) (by simp)]; simp
  have f1 : w2.frozen? ⟨w.heap.size, cs.length, none⟩ = false := World.ownsRow.frozenAt hr3 _
  have f2 : w2.frozen? ⟨w.heap.size, cs.length + 1, none⟩ = false := World.ownsRow.frozenAt hr3 _
  have HR2 : Hid (Row w2 (.slice (some ⟨w.heap.size, 0, none⟩) (cs.length + 2) (cs.length + 2)) (cs ++ [0, 0])) := hr2
  have HK2 : Hid (Kept (fun _ => False) w w2) := HK.out.grown hg2 (fun k e => .inr (by simp at e; omega))
  clear hr2 hr3 hg2 hs2 HR HK
  go_wp2_with fail
  go_ret
  refine ⟨w.heap.size, rfl, ?_, ?_, Nat.le_refl _⟩
  · have h := Row.set (Row.set HR2.out cs.length 165) (cs.length + 1) 90
    have e1 : ((cs ++ [0, 0]).set cs.length 165).set (cs.length + 1) 90 = cs ++ [165, 90] := by
      rw [List.set_append_right _ _ (by omega), List.set_append_right _ _ (by omega)]; simp
    rw [e1] at h
    exact h
  · exact (HK2.out.setCell _ _ (.inr (Nat.le_refl _))).setCell _ _ (.inr (Nat.le_refl _))

set_option maxHeartbeats 1000000 in
theorem keepBack_any (w : World) (g : Nat) (v : Value) (I : Nat → Prop) (cs : List Nat) (hrow : Row w (.slice (some ⟨g, 0, none⟩) (cs.length + 2) (cs.length + 2)) (cs ++ [165, 90])) (hsrc : Src w I v cs) (hlen : cs.length ≤ 100000000) (hb : ∀ b ∈ cs, b < 256) :
    Calls Try.prog 44 #[.slice (some ⟨g, 0, none⟩) cs.length (cs.length + 2), v] w fun e w' => e = .returned (.bool true) ∧ Kept (· = g) w w' := by
  obtain ⟨ao, cap, rfl, hsa⟩ := id hsrc
  have hr3 : Row w (.slice (some ⟨g, 0, none⟩) (cs ++ [165, 90]).length (cs.length + 2)) (cs ++ [165, 90]) := by simpa using hrow
  have HCELL : Hid (∀ j (_ : j < cs.length), w.cell? ⟨g, j, none⟩ = some (.int .u8 (cs[j] : Nat))) := by
    intro j hj
    rw [Row.cell hr3 j (by simp; omega), List.getElem_append_left hj]
  have c1 : w.cell? ⟨g, cs.length, none⟩ = some (.int .u8 165) := by
    rw [Row.cell hr3 cs.length (by simp)]; simp
  have c2 : w.cell? ⟨g, cs.length + 1, none⟩ = some (.int .u8 90) := by
    rw [Row.cell hr3 (cs.length + 1) (by simp)]; simp
  have HR : Hid (Row w (.slice (some ⟨g, 0, none⟩) (cs.length + 2) (cs.length + 2)) (cs ++ [165, 90])) := hrow
  have HSA : Hid (cs ≠ [] → ∃ b o, ao = some ⟨b, o, none⟩ ∧ I b ∧ ∀ j (_ : j < cs.length), w.cell? ⟨b, o + j, none⟩ = some (.int .u8 (cs[j] : Nat))) := hsa
  have HB : Hid (∀ b ∈ cs, b < 256) := hb
  clear hr3 hrow hsrc hsa hb
  go_enter Try.func44, Try.ntmps44
  go_wp2_with fail
  go_loopg [6, 7] cs.length (fun k x i wr => ∃ j : Nat, j ≤ cs.length ∧ cs.length - j ≤ k ∧ i = .int .i64 (j : Nat) ∧ x = .bool true ∧ ∃ m, wr = w.drewN m)
  case atStart => exact ⟨0, by omega, by omega, rfl, rfl, 0, rfl⟩
  case round =>
    obtain ⟨j, hj, hjk, rfl, rfl, m, rfl⟩ := hrel
    by_cases hlt : j < cs.length
    · obtain ⟨b, o, rfl, _, hcb⟩ := HSA.out (by intro e; rw [e] at hlt; simp at hlt)
      have d1 := HCELL.out j hlt
      have d2 := hcb j hlt
      obtain ⟨x, hx⟩ : ∃ x, x = cs[j] := ⟨_, rfl⟩
      rw [← hx] at d1 d2
      clear hcb hx c1 c2
      go_wp2_with fail
      go_quiet (fail)
      go_wp2_with fail
      go_roundg (gk - 1)
      case measure => omega
      case rel => exact ⟨j + 1, by omega, by omega, by go_num, by simp, _, rfl⟩
    · clear c1 c2
      go_wp2_with fail
      go_loopg [8] (cs.length + 2) (fun k x wx => ∃ (t : Nat) (es : List Nat), t ≤ cs.length + 2 ∧ cs.length + 2 - t ≤ k ∧ x = .int .i64 (t : Nat) ∧ es.length = cs.length + 2 ∧ Row wx (.slice (some ⟨g, 0, none⟩) (cs.length + 2) (cs.length + 2)) es ∧ (∀ b ∈ es, b < 256) ∧ Kept (· = g) w wx)
      case atStart =>
        refine ⟨0, cs ++ [165, 90], by omega, by omega, rfl, by simp, HR.out, ?_, (Kept.refl _ w).drewN m⟩
        intro b hb
        rcases List.mem_append.1 hb with h | h
        · exact HB.out b h
        · simp at h; omega
      case round =>
        obtain ⟨t, es, ht, htk, rfl, hl, hr, hb, hk⟩ := hrel
        have HR2 : Hid (Row wr (.slice (some ⟨g, 0, none⟩) (cs.length + 2) (cs.length + 2)) es) := hr
        have HB2 : Hid (∀ b ∈ es, b < 256) := hb
        have HK2 : Hid (Kept (· = g) w wr) := hk
        have HL2 : Hid (es.length = cs.length + 2) := hl
        by_cases hlt2 : t < cs.length + 2
        · have hje : t < es.length := by omega
          have hc : wr.cell? ⟨g, t, none⟩ = some (.int .u8 (es[t] : Nat)) := by
            have h2 : Row wr (.slice (some ⟨g, 0, none⟩) es.length (cs.length + 2)) es := by rw [hl]; exact hr
            exact Row.cell h2 t hje
          have hf : wr.frozen? ⟨g, t, none⟩ = false := by
            have h2 : Row wr (.slice (some ⟨g, 0, none⟩) es.length (cs.length + 2)) es := by rw [hl]; exact hr
            exact World.ownsRow.frozenAt h2 t
          obtain ⟨x, hx⟩ : ∃ x, x = es[t] := ⟨_, rfl⟩
          have hx2 : x < 256 := by rw [hx]; exact hb _ (List.getElem_mem _)
          rw [← hx] at hc
          clear hr hb hk hl hje hx
          go_wp2_with fail
          go_roundg (gk - 1)
          case measure => omega
          case rel =>
            refine ⟨t + 1, es.set t ((x + 77) % 256), by omega, by omega, by go_num, by rw [List.length_set]; exact HL2.out, ?_, ?_, HK2.out.setCell _ _ (.inl rfl)⟩
            · have h := Row.set HR2.out t ((x + 77) % 256)
              rw [show (((x + 77) % 256 : Nat) : Int) = ((x : Int) + 77) % 256 by omega] at h
              exact h
            · intro b hb
              rcases List.mem_or_eq_of_mem_set hb with h | h
              · exact HB2.out b h
              · omega
        · clear hr hb hk hl
          go_wp2_with fail
          go_ret
          exact ⟨rfl, HK2.out⟩

end Go.Proofs.Ytjcobogajkfnmaa
