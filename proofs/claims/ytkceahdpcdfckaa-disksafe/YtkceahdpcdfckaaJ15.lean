/-
  Of the proof: parts Cut, Lay, Writer, Reader, LSum.
-/
import Derived.Laws.BitsAllLaws
import Derived.Test.YtkceahdpcdfckaaJ3

/-
  The reader's inner function 'cut'.
-/
namespace Go.Proofs.Ytkceahdpcdfckaa
open Go.RowKit

theorem cut_bits (V b u k got : Nat) (hV : V < 2 ^ got) (hb : b < 256) (hk : k ≤ 8) (hg : got + k ≤ 32) :
    bits .or .u32 (V : Int) (bits .and .u32 ((b : Int) % 4294967296 / 2 ^ u) ((2 ^ k - 1) % 4294967296) * 2 ^ got % 4294967296) = ((V + 2 ^ got * (b / 2 ^ u % 2 ^ k) : Nat) : Int) := by
  have hk2 : 2 ^ k ≤ 2 ^ 8 := Nat.pow_le_pow_right (by omega) hk
  have hk0 : 0 < 2 ^ k := Nat.two_pow_pos k
  have e1 : ((b : Int) % 4294967296 / 2 ^ u) = ((b / 2 ^ u : Nat) : Int) := by
    rw [show ((b : Int) % 4294967296) = (b : Int) by omega]; simp
  have e2 : (((2 : Int) ^ k - 1) % 4294967296) = ((2 ^ k - 1 : Nat) : Int) := by
    have : ((2 : Int) ^ k) = ((2 ^ k : Nat) : Int) := by simp
    rw [this]
    omega
  have h1 : b / 2 ^ u < 4294967296 := Nat.lt_of_le_of_lt (Nat.div_le_self _ _) (by omega)
  have h2 : 2 ^ k - 1 < 4294967296 := by omega
  rw [e1, e2, u32_and_nat _ _ h1 h2, and_mask]
  have hm : b / 2 ^ u % 2 ^ k < 2 ^ k := Nat.mod_lt _ hk0
  have hlt : b / 2 ^ u % 2 ^ k * 2 ^ got < 4294967296 := by
    have h3 : b / 2 ^ u % 2 ^ k * 2 ^ got < 2 ^ k * 2 ^ got := Nat.mul_lt_mul_of_pos_right hm (Nat.two_pow_pos _)
    have h4 : 2 ^ k * 2 ^ got ≤ 2 ^ 32 := by rw [← Nat.pow_add]; exact Nat.pow_le_pow_right (by omega) (by omega)
    omega
  have e3 : (((b / 2 ^ u % 2 ^ k : Nat) : Int) * 2 ^ got % 4294967296) = ((b / 2 ^ u % 2 ^ k * 2 ^ got : Nat) : Int) := by
    have : ((2 : Int) ^ got) = ((2 ^ got : Nat) : Int) := by simp
    rw [this, ← Int.natCast_mul]
    omega
  have hV32 : V < 4294967296 := by
    have : 2 ^ got ≤ 2 ^ 32 := Nat.pow_le_pow_right (by omega) (by omega)
    omega
  rw [e3, u32_or_nat _ _ hV32 hlt, Nat.mul_comm, or_add _ _ _ hV]

theorem cut_rel {w wr : World} {p : Nat} {s : Value} {bs : List Nat} {c n got k gk nq V b : Nat} (hs : St wr p s bs (c + got)) (hkp : Kept (· = p) w wr) (hlt : (c + got) / 8 < bs.length) (hb : b = bs[(c + got) / 8]) (hV : V = n256 bs / 2 ^ c % 2 ^ got)
    (hk : (c + got) % 8 + k ≤ 8) (hkn : got + k ≤ n) (hn : n ≤ 32) (hgk : n - (got + k) ≤ gk) {M G C : Int} (hM : M = bits .or .u32 (V : Int) (bits .and .u32 ((b : Int) % 4294967296 / 2 ^ ((c + got) % 8)) ((2 ^ k - 1) % 4294967296) * 2 ^ got % 4294967296))
    (hG : G = ((got + k : Nat) : Int)) (hC : C = ((c + (got + k) : Nat) : Int)) :
    ∃ got' : Nat, got' ≤ n ∧ n - got' ≤ gk ∧ Value.int .u32 M = .int .u32 (n256 bs / 2 ^ c % 2 ^ got' : Nat) ∧ Value.int .i64 G = .int .i64 (got' : Nat) ∧ St ((wr.drewN nq).setCell ⟨p, 1, none⟩ (.int .i64 C)) p s bs (c + got') ∧ Kept (· = p) w ((wr.drewN nq).setCell ⟨p, 1, none⟩ (.int .i64 C)) := by
  have hb8 : b < 256 := by rw [hb]; exact hs.byte _ (List.getElem_mem _)
  have hV2 : V < 2 ^ got := by rw [hV]; exact Nat.mod_lt _ (Nat.two_pow_pos _)
  have e := cut_step bs hs.byte c got k hk hlt
  subst hG hC
  refine ⟨got + k, hkn, hgk, ?_, rfl, (hs.drewN nq).setCount _, (hkp.drewN nq).setCell _ _ (.inl rfl)⟩
  rw [hM, cut_bits V b _ k got hV2 hb8 (by omega) (by omega), ← e, hb, hV]

end Go.Proofs.Ytkceahdpcdfckaa

/-
  The writer's inner function 'lay'.
-/
namespace Go.Proofs.Ytkceahdpcdfckaa
open Go.RowKit


/-- What holds at each round's head. -/
structure Lays (w0 w : World) (p : Nat) (v0 : Value) (X T : Nat) (v n : Nat) (s : Value) (bs : List Nat) (c : Nat) : Prop where
  st : St w p s bs c
  kept : Kept (Fp p v0) w0 w
  own : s.ownBlock = v0.ownBlock ∨ ∀ k, s.ownBlock = some k → w0.heap.size ≤ k
  sum : n256 bs + v * 2 ^ c = X
  cnt : c + n = T
  lo : c ≤ 8 * bs.length
  hi : 8 * bs.length ≤ c + 8
  hn : 8 * bs.length = c + 8 → 0 < n
  hv : v < 2 ^ n
  hx : n256 bs < 2 ^ c

theorem lays_app {w0 wr w1 : World} {p : Nat} {v0 s v' : Value} {X T v n c nq : Nat} {bs : List Nat} (h : Lays w0 wr p v0 X T v n s bs c) (h8 : 8 * bs.length = c) (h0 : 0 < n) {o : Obj}
    (hrow : Row w1 v' (bs ++ [0])) (hg : ((wr.drewN nq).alloc o).grownBy w1 s.ownBlock)
    (hv' : v'.ownBlock = s.ownBlock ∨ v'.ownBlock = some (((wr.drewN nq).alloc o).heap.size)) :
    Lays w0 (w1.setCell ⟨p, 0, none⟩ v') p v0 X T v n v' (bs ++ [0]) c := by
  have hk1 : Kept (fun k => s.ownBlock = some k) wr w1 := (((Kept.refl _ wr).drewN nq).alloc o).grown hg (fun k e => .inl e)
  have hsz : w0.heap.size ≤ wr.heap.size := h.kept.size
  have hlt := h.st.lt
  have hv : v'.ownBlock = s.ownBlock ∨ ∀ k, v'.ownBlock = some k → wr.heap.size ≤ k := by
    rcases hv' with e | e
    · exact .inl e
    · refine .inr (fun k e' => ?_)
      rw [e] at e'
      simp at e'
      omega
  have hne : v'.ownBlock ≠ some p := by
    rcases hv with e | e
    · rw [e]; exact h.st.ne
    · intro e'; have := e p e'; omega
  refine ⟨h.st.setBytes hk1 hrow hne ?_, ?_, ?_, ?_, h.cnt, by simp; omega, by simp; omega, fun _ => h0, h.hv, ?_⟩
  · intro b hb
    rcases List.mem_append.1 hb with hb | hb
    · exact h.st.byte b hb
    · simp at hb; omega
  · refine (Kept.trans (H := Fp p v0) h.kept hk1 (fun _ _ e => e) ?_).setCell _ _ (.inl (.inl rfl))
    intro x hx e
    rcases h.own with e' | e'
    · exact .inr (by rw [← e', e])
    · have := e' x e; omega
  · rcases hv with e | e
    · rw [e]; exact h.own
    · exact .inr (fun k e' => Nat.le_trans hsz (e k e'))
  · rw [n256_append]; simpa [n256] using h.sum
  · rw [n256_append]; simpa [n256] using h.hx

theorem lays_end {w0 wr : World} {p : Nat} {v0 s : Value} {X T v c : Nat} {bs : List Nat} (h : Lays w0 wr p v0 X T v 0 s bs c) (nq : Nat) : Lays w0 (wr.drewN nq) p v0 X T 0 0 s bs T := by
  have e : T = c := by have := h.cnt; omega
  have hv : v = 0 := by have := h.hv; simp at this; exact this
  subst e hv
  exact ⟨h.st.drewN nq, h.kept.drewN nq, h.own, h.sum, rfl, h.lo, h.hi, h.hn, by simp, h.hx⟩

theorem lays_put {w0 wr : World} {p : Nat} {v0 : Value} {X T v n c g cap b free : Nat} {bs : List Nat} (h : Lays w0 wr p v0 X T v n (.slice (some ⟨g, 0, none⟩) (bs.length + 1) cap) (bs ++ [b]) c)
    (hf : c + free = 8 * (bs.length + 1)) (hf0 : 0 < free) (hn : 0 < n) (nq : Nat) :
    Lays w0 (((wr.drewN nq).setCell ⟨g, bs.length, none⟩ (.int .u8 (b ||| (v * 2 ^ (8 - free) % 256) : Nat))).setCell ⟨p, 1, none⟩ (.int .i64 (c + min free n : Nat))) p v0 X T (v / 2 ^ min free n) (n - min free n)
      (.slice (some ⟨g, 0, none⟩) (bs.length + 1) cap) (bs ++ [b ||| (v * 2 ^ (8 - free) % 256)]) (c + min free n) := by
  have hf8 : free ≤ 8 := by have := h.hi; simp at this; omega
  have hb := last_lt bs b c free (by omega) hf8 h.hx
  have hx : b ||| (v * 2 ^ (8 - free) % 256) = b + 2 ^ (8 - free) * (v % 2 ^ free) := by rw [shl_byte v free hf8]; exact or_add _ _ _ hb
  have hx8 : b ||| (v * 2 ^ (8 - free) % 256) < 256 := by
    have h1 : b < 2 ^ 8 := h.st.byte b (by simp)
    have h2 : v * 2 ^ (8 - free) % 256 < 2 ^ 8 := Nat.mod_lt _ (by decide)
    exact Nat.or_lt_two_pow h1 h2
  have hrow0 : Row wr (.slice (some ⟨g, 0, none⟩) (bs.length + 1) cap) (bs ++ [b]) := h.st.row
  have hst := World.ownsRow.stored (n := bs.length + 1) (by simpa [Row] using hrow0) bs.length (.int .u8 (b ||| (v * 2 ^ (8 - free) % 256) : Nat))
  have hrow1 : Row (wr.setCell ⟨g, bs.length, none⟩ (.int .u8 (b ||| (v * 2 ^ (8 - free) % 256) : Nat))) (.slice (some ⟨g, 0, none⟩) (bs.length + 1) cap) (bs ++ [b ||| (v * 2 ^ (8 - free) % 256)]) := by
    have := hst.1
    rw [List.set_append_right _ _ (by simp)] at this
    simpa [Row, byteV] using this
  have hgp : g ≠ p := by have := h.st.ne; simpa [Value.ownBlock] using this
  have hk1 : Kept (· = g) wr (wr.setCell ⟨g, bs.length, none⟩ (.int .u8 (b ||| (v * 2 ^ (8 - free) % 256) : Nat))) := (Kept.refl _ wr).setCell _ _ (.inl rfl)
  have hs1 : St (wr.setCell ⟨g, bs.length, none⟩ (.int .u8 (b ||| (v * 2 ^ (8 - free) % 256) : Nat))) p (.slice (some ⟨g, 0, none⟩) (bs.length + 1) cap) (bs ++ [b ||| (v * 2 ^ (8 - free) % 256)]) c := by
    refine ⟨hk1.cell h.st.cb (Ne.symm hgp), hk1.cell h.st.cc (Ne.symm hgp), (hk1.frozen h.st.lt (Ne.symm hgp)).trans h.st.fb, (hk1.frozen h.st.lt (Ne.symm hgp)).trans h.st.fc, hrow1, h.st.ne, ?_⟩
    intro y hy
    rcases List.mem_append.1 hy with hy | hy
    · exact h.st.byte y (by simp [hy])
    · simp at hy; subst hy; exact hx8
  have hsum : n256 (bs ++ [b ||| (v * 2 ^ (8 - free) % 256)]) = n256 (bs ++ [b]) + 2 ^ c * (v % 2 ^ free) := by rw [hx]; exact last_set bs b c free _ (by omega) hf8
  refine ⟨(hs1.setCount (c + min free n)).drewN nq, ?_, h.own, ?_, ?_, ?_, ?_, ?_, ?_, ?_⟩
  · have hk2 := (Kept.refl (Fp p v0) (wr.setCell ⟨g, bs.length, none⟩ (.int .u8 (b ||| (v * 2 ^ (8 - free) % 256) : Nat)))).setCell ⟨p, 1, none⟩ (.int .i64 (c + min free n : Nat)) (.inl (.inl rfl))
    refine (Kept.trans (H := Fp p v0) ?_ hk2 (fun _ _ e => e) (fun _ _ e => e)).drewN nq
    refine Kept.trans (H := Fp p v0) h.kept hk1 (fun _ _ e => e) ?_
    intro x hx' e
    rcases h.own with e' | e'
    · exact .inr (by rw [← e', e]; rfl)
    · have := e' x (by rw [e]; rfl); omega
  · rw [hsum, lay_step _ _ _ _ _ h.hv]; exact h.sum
  · have := h.cnt; omega
  · simp; omega
  · simp; omega
  · intro e; simp at e; omega
  · have hv := h.hv
    rw [Nat.div_lt_iff_lt_mul (Nat.two_pow_pos _), ← Nat.pow_add, show n - min free n + min free n = n by omega]
    exact hv
  · rw [hsum, Nat.pow_add]
    have h1 := h.hx
    have h2 : v % 2 ^ free < 2 ^ min free n := by
      by_cases hfn : free ≤ n
      · rw [Nat.min_eq_left hfn]; exact Nat.mod_lt _ (Nat.two_pow_pos _)
      · rw [Nat.min_eq_right (by omega)]; exact Nat.lt_of_le_of_lt (Nat.mod_le _ _) h.hv
    have h3 : 2 ^ c * (v % 2 ^ free + 1) ≤ 2 ^ c * 2 ^ min free n := Nat.mul_le_mul_left _ h2
    rw [Nat.mul_add] at h3
    omega

theorem lays_rel {w0 wr : World} {p : Nat} {v0 s : Value} {X T v n c g cap b free m k : Nat} {bs bs1 : List Nat} (h : Lays w0 wr p v0 X T v n s bs1 c) (hs : s = .slice (some ⟨g, 0, none⟩) bs1.length cap) (hb : bs1 = bs ++ [b] ∧ m = bs.length)
    (hf : c + free = 8 * (m + 1)) (hf0 : 0 < free) (hn : 0 < n) (nq : Nat) {B V N C : Int} (hB : B = bits .or .u8 (b : Int) ((v : Int) * 2 ^ (8 - free) % 256)) (hV : V = (v : Int) / 2 ^ min free n) (hN : N = ((n - min free n : Nat) : Int)) (hC : C = ((c + min free n : Nat) : Int)) (hk : 2 * n - 1 ≤ k) :
    ∃ s' bs' c' v' n', Value.int .u32 V = Value.int .u32 (v' : Nat) ∧ Value.int .i64 N = Value.int .i64 (n' : Nat) ∧ (2 * n' + if c' = 8 * bs'.length then 1 else 0) ≤ k ∧
      Lays w0 (((wr.drewN nq).setCell ⟨g, m, none⟩ (.int .u8 B)).setCell ⟨p, 1, none⟩ (.int .i64 C)) p v0 X T v' n' s' bs' c' := by
  obtain ⟨rfl, rfl⟩ := hb
  rw [List.length_append, List.length_singleton] at hs
  subst hs
  have R := lays_put h hf hf0 hn nq
  have hb8 : b < 256 := h.st.byte b (by simp)
  have e : ((v : Int) * 2 ^ (8 - free) % 256) = ((v * 2 ^ (8 - free) % 256 : Nat) : Int) := by simp
  rw [e, u8_or_nat b _ hb8 (Nat.mod_lt _ (by decide))] at hB
  subst hB hN hC
  refine ⟨_, _, _, v / 2 ^ min free n, n - min free n, by rw [hV]; simp, rfl, ?_, R⟩
  split <;> omega

end Go.Proofs.Ytkceahdpcdfckaa

/-
  The writer's calls.
-/
namespace Go.Proofs.Ytkceahdpcdfckaa
open Go.RowKit

/-- A writer at block p with the bits of the number X, c of them. -/
structure Wr (w : World) (p : Nat) (s : Value) (X c : Nat) : Prop where
  ex : ∃ bs, St w p s bs c ∧ n256 bs = X ∧ c ≤ 8 * bs.length ∧ 8 * bs.length < c + 8
  lt : X < 2 ^ c

/-- Where the bytes lie: where they lay, or in new memory. -/
def Grew (w : World) (s s' : Value) : Prop := s'.ownBlock = s.ownBlock ∨ ∀ k, s'.ownBlock = some k → w.heap.size ≤ k

theorem Wr.kept {F : Nat → Prop} {w w' : World} {p : Nat} {s : Value} {X c : Nat} (h : Wr w p s X c) (hk : Kept F w w') (hn : ∀ k, Fp p s k → ¬ F k) : Wr w' p s X c := by
  obtain ⟨bs, h1, h2⟩ := h.ex
  exact ⟨⟨bs, h1.kept hk hn, h2⟩, h.lt⟩

theorem Wr.fp_lt {w : World} {p : Nat} {s : Value} {X c : Nat} (h : Wr w p s X c) {k : Nat} (hk : Fp p s k) : k < w.heap.size := by
  obtain ⟨bs, h1, _⟩ := h.ex
  exact h1.fp_lt hk























end Go.Proofs.Ytkceahdpcdfckaa

/-
  The reader's calls; the writer's Bytes; two rows of bytes held against one another.
-/
namespace Go.Proofs.Ytkceahdpcdfckaa
open Go.RowKit

theorem ret_int {k : IntKind} {a b : Int} (h : a = b) : Ending.returned (.int k a) = .returned (.int k b) := by rw [h]

































set_option maxHeartbeats 400000 in
theorem keepBytes_any (va vb : Value) (I J : Nat → Prop) (xs ys : List Nat) (w : World) (ha : Src w I va xs) (hb : Src w J vb ys) (hx : xs.length ≤ 1000000000000) (hy : ys.length ≤ 1000000000000) :
    Calls Try.prog 23 #[va, vb] w fun e w' => e = .returned (.bool (decide (xs = ys))) ∧ ∃ m, w' = w.drewN m := by
  obtain ⟨ao, ca, rfl, hsa⟩ := id ha
  obtain ⟨bo, cb, rfl, hsb⟩ := id hb
  clear ha hb
  by_cases hl : xs.length = ys.length
  · have HL : Hid (xs.length = ys.length) := hl
    have hd : ((xs.length : Int) != (ys.length : Int)) = false := by simp [hl]
    clear hl
    go_enter Try.func23, Try.ntmps23
    go_wp2
    clear hd
    go_loopg [5] xs.length (fun k i wr => ∃ j : Nat, j ≤ xs.length ∧ xs.length - j ≤ k ∧ i = .int .i64 j ∧ (∃ m, wr = w.drewN m) ∧ xs.take j = ys.take j)
    case atStart => exact ⟨0, by omega, by omega, rfl, ⟨0, rfl⟩, by simp⟩
    case round =>
      obtain ⟨j, hj, hjk, rfl, ⟨m, rfl⟩, ht⟩ := hrel
      have HT : Hid (xs.take j = ys.take j) := ht
      clear ht
      by_cases hlt : j < xs.length
      · have hlt2 : j < ys.length := by have := HL.out; omega
        obtain ⟨a, oa, rfl, _, hca⟩ := hsa (by intro e; rw [e] at hlt; simp at hlt)
        obtain ⟨b, ob, rfl, _, hcb⟩ := hsb (by intro e; rw [e] at hlt2; simp at hlt2)
        have hc1 := hca j hlt
        have hc2 := hcb j hlt2
        obtain ⟨x, hx1⟩ : ∃ x, x = xs[j] := ⟨_, rfl⟩
        obtain ⟨y, hy1⟩ : ∃ y, y = ys[j] := ⟨_, rfl⟩
        rw [← hx1] at hc1
        rw [← hy1] at hc2
        have HX : Hid (x = xs[j]) := hx1
        have HY : Hid (y = ys[j]) := hy1
        clear hca hcb hsa hsb hx1 hy1
        by_cases he : x = y
        · have hd : ((x : Int) != (y : Int)) = false := by simp [he]
          have HE : Hid (x = y) := he
          clear he
          go_wp2
          go_quiet (fail)
          go_wp2
          go_roundg (gk - 1)
          case measure => omega
          case rel => exact ⟨j + 1, by omega, by omega, by go_num, ⟨_, rfl⟩, by rw [List.take_succ_eq_append_getElem hlt, List.take_succ_eq_append_getElem hlt2, HT.out, ← HX.out, ← HY.out, HE.out]⟩
        · have hd : ((x : Int) != (y : Int)) = true := by simp; omega
          go_wp2
          go_quiet (fail)
          go_wp2
          go_ret
          refine ⟨?_, _, drewN_add _ _ _⟩
          have : ¬ xs = ys := by intro e; subst e; exact he (HX.out.trans HY.out.symm)
          simp [this]
      · clear hsa hsb
        go_wp2
        go_ret
        refine ⟨?_, _, rfl⟩
        have h1 := HT.out
        have h2 := HL.out
        rw [List.take_of_length_le (by omega), List.take_of_length_le (by omega)] at h1
        simp [h1]
  · have hd : ((xs.length : Int) != (ys.length : Int)) = true := by simp; omega
    have HL : Hid (¬ xs.length = ys.length) := hl
    clear hl
    go_enter Try.func23, Try.ntmps23
    go_wp2
    go_ret
    have : ¬ xs = ys := by intro e; exact HL.out (by rw [e])
    exact ⟨by simp [this], 0, rfl⟩

end Go.Proofs.Ytkceahdpcdfckaa

/-
  The check: little's and the reference's.
-/
namespace Go.Proofs.Ytkceahdpcdfckaa
open Go.RowKit

theorem and_one (u : Nat) (h : u < 4294967296) : bits .and .u32 (u : Int) 1 = ((u % 2 : Nat) : Int) := by
  have e := u32_and_nat u 1 h (by omega)
  rw [Nat.and_one_is_mod] at e
  exact e

theorem xor_poly (n : Nat) (h : n < 4294967296) : bits .xor .u32 (n : Int) 3988292384 = ((n ^^^ 3988292384 : Nat) : Int) := u32_xor_nat n 3988292384 h (by decide)

theorem xor_nought (n : Nat) (h : n < 4294967296) : bits .xor .u32 (n : Int) 0 = (n : Int) := by
  have e := u32_xor_nat n 0 h (by decide)
  rw [Nat.xor_zero] at e
  exact e

theorem push_of_odd (u : Nat) (h : u % 2 = 1) : push u = u / 2 ^^^ 3988292384 := by unfold push; rw [h, Nat.one_mul]
theorem push_of_even (u : Nat) (h : u % 2 = 0) : push u = u / 2 := by unfold push; rw [h, Nat.zero_mul, Nat.xor_zero]

theorem push_odd (u : Nat) (h : u < 4294967296) (h1 : u % 2 = 1) : bits .xor .u32 ((u : Int) / 2) 3988292384 = ((push u : Nat) : Int) := by
  have e2 : (u : Int) / 2 = ((u / 2 : Nat) : Int) := by omega
  rw [e2, push_of_odd u h1]
  exact xor_poly (u / 2) (by omega)

theorem push_int (u : Nat) (h : u < 4294967296) : bits .xor .u32 ((u : Int) / 2) (bits .and .u32 (u : Int) 1 * 3988292384 % 4294967296) = ((push u : Nat) : Int) := by
  rw [and_one u h]
  rcases Nat.mod_two_eq_zero_or_one u with h1 | h1
  · have e3 : ((u % 2 : Nat) : Int) * 3988292384 % 4294967296 = 0 := by rw [h1]; rfl
    have e2 : (u : Int) / 2 = ((u / 2 : Nat) : Int) := by omega
    rw [e3, e2, push_of_even u h1]
    exact xor_nought (u / 2) (by omega)
  · have e3 : ((u % 2 : Nat) : Int) * 3988292384 % 4294967296 = 3988292384 := by rw [h1]; rfl
    rw [e3]
    exact push_odd u h h1

theorem push_even (u : Nat) (h1 : u % 2 = 0) : (u : Int) / 2 = ((push u : Nat) : Int) := by
  unfold push
  rw [h1, Nat.zero_mul, Nat.xor_zero]
  omega

theorem not_int (u : Nat) (h : u < 4294967296) : bits .xor .u32 4294967295 (u : Int) = ((not32 u : Nat) : Int) := by
  have e := u32_xor_nat 4294967295 u (by omega) h
  have e2 : 4294967295 ^^^ u = not32 u := by
    have hb : (BitVec.allOnes 32 ^^^ BitVec.ofNat 32 u).toNat = (~~~ BitVec.ofNat 32 u).toNat := by rw [BitVec.allOnes_xor]
    rw [BitVec.toNat_xor, BitVec.toNat_not, BitVec.toNat_allOnes, BitVec.toNat_ofNat, Nat.mod_eq_of_lt (show u < 2 ^ 32 by omega)] at hb
    exact hb
  rw [e2] at e
  exact e











end Go.Proofs.Ytkceahdpcdfckaa
