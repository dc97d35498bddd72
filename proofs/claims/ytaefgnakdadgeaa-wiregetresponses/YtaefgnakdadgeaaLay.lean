/-
  The writer's inner function 'lay'.
-/
import Derived.Test.YtaefgnakdadgeaaOwn
import Derived.Laws.BitsAllLaws
namespace Go.Proofs.Ytaefgnakdadgeaa
open Go.RowKit


/-- What holds at each round's head. -/
structure Lays (w0 w : World) (p : Nat) (v0 : Value) (X T : Nat) (v n : Nat) (s : Value) (bs : List Nat) (c : Nat) : Prop where
  st : St w p s bs c
  kept : Kept (Fp p v0) w0 w
  own : s.ownBlock = v0.ownBlock ∨ ∀ k, s.ownBlock = some k → w0.heap.size ≤ k
  sum : n256 bs + v * 2 ^ c = X
  cnt : c + n = T
  lo : c ≤ 8 * bs.length
  hi : 8 * bs.length ≤ c + 8
  hn : 8 * bs.length = c + 8 → 0 < n
  hv : v < 2 ^ n
  hx : n256 bs < 2 ^ c

theorem lays_app {w0 wr w1 : World} {p : Nat} {v0 s v' : Value} {X T v n c nq : Nat} {bs : List Nat} (h : Lays w0 wr p v0 X T v n s bs c) (h8 : 8 * bs.length = c) (h0 : 0 < n) {o : Obj}
    (hrow : Row w1 v' (bs ++ [0])) (hg : ((wr.drewN nq).alloc o).grownBy w1 s.ownBlock)
    (hv' : v'.ownBlock = s.ownBlock ∨ v'.ownBlock = some (((wr.drewN nq).alloc o).heap.size)) :
    Lays w0 (w1.setCell ⟨p, 0, none⟩ v') p v0 X T v n v' (bs ++ [0]) c := by
  have hk1 : Kept (fun k => s.ownBlock = some k) wr w1 := (((Kept.refl _ wr).drewN nq).alloc o).grown hg (fun k e => .inl e)
  have hsz : w0.heap.size ≤ wr.heap.size := h.kept.size
  have hlt := h.st.lt
  have hv : v'.ownBlock = s.ownBlock ∨ ∀ k, v'.ownBlock = some k → wr.heap.size ≤ k := by
    rcases hv' with e | e
    · exact .inl e
    · refine .inr (fun k e' => ?_)
      rw [e] at e'
      simp at e'
      omega
  have hne : v'.ownBlock ≠ some p := by
    rcases hv with e | e
    · rw [e]; exact h.st.ne
    · intro e'; have := e p e'; omega
  refine ⟨h.st.setBytes hk1 hrow hne ?_, ?_, ?_, ?_, h.cnt, by simp; omega, by simp; omega, fun _ => h0, h.hv, ?_⟩
  · intro b hb
    rcases List.mem_append.1 hb with hb | hb
    · exact h.st.byte b hb
    · simp at hb; omega
  · refine (Kept.trans (H := Fp p v0) h.kept hk1 (fun _ _ e => e) ?_).setCell _ _ (.inl (.inl rfl))
    intro x hx e
    rcases h.own with e' | e'
    · exact .inr (by rw [← e', e])
    · have := e' x e; omega
  · rcases hv with e | e
    · rw [e]; exact h.own
    · exact .inr (fun k e' => Nat.le_trans hsz (e k e'))
  · rw [n256_append]; simpa [n256] using h.sum
  · rw [n256_append]; simpa [n256] using h.hx

theorem lays_end {w0 wr : World} {p : Nat} {v0 s : Value} {X T v c : Nat} {bs : List Nat} (h : Lays w0 wr p v0 X T v 0 s bs c) (nq : Nat) : Lays w0 (wr.drewN nq) p v0 X T 0 0 s bs T := by
  have e : T = c := by have := h.cnt; omega
  have hv : v = 0 := by have := h.hv; simp at this; exact this
  subst e hv
  exact ⟨h.st.drewN nq, h.kept.drewN nq, h.own, h.sum, rfl, h.lo, h.hi, h.hn, by simp, h.hx⟩

theorem lays_put {w0 wr : World} {p : Nat} {v0 : Value} {X T v n c g cap b free : Nat} {bs : List Nat} (h : Lays w0 wr p v0 X T v n (.slice (some ⟨g, 0, none⟩) (bs.length + 1) cap) (bs ++ [b]) c)
    (hf : c + free = 8 * (bs.length + 1)) (hf0 : 0 < free) (hn : 0 < n) (nq : Nat) :
    Lays w0 (((wr.drewN nq).setCell ⟨g, bs.length, none⟩ (.int .u8 (b ||| (v * 2 ^ (8 - free) % 256) : Nat))).setCell ⟨p, 1, none⟩ (.int .i64 (c + min free n : Nat))) p v0 X T (v / 2 ^ min free n) (n - min free n)
      (.slice (some ⟨g, 0, none⟩) (bs.length + 1) cap) (bs ++ [b ||| (v * 2 ^ (8 - free) % 256)]) (c + min free n) := by
  have hf8 : free ≤ 8 := by have := h.hi; simp at this; omega
  have hb := last_lt bs b c free (by omega) hf8 h.hx
  have hx : b ||| (v * 2 ^ (8 - free) % 256) = b + 2 ^ (8 - free) * (v % 2 ^ free) := by rw [shl_byte v free hf8]; exact or_add _ _ _ hb
  have hx8 : b ||| (v * 2 ^ (8 - free) % 256) < 256 := by
    have h1 : b < 2 ^ 8 := h.st.byte b (by simp)
    have h2 : v * 2 ^ (8 - free) % 256 < 2 ^ 8 := Nat.mod_lt _ (by decide)
    exact Nat.or_lt_two_pow h1 h2
  have hrow0 : Row wr (.slice (some ⟨g, 0, none⟩) (bs.length + 1) cap) (bs ++ [b]) := h.st.row
  have hst := World.ownsRow.stored (n := bs.length + 1) (by simpa [Row] using hrow0) bs.length (.int .u8 (b ||| (v * 2 ^ (8 - free) % 256) : Nat))
  have hrow1 : Row (wr.setCell ⟨g, bs.length, none⟩ (.int .u8 (b ||| (v * 2 ^ (8 - free) % 256) : Nat))) (.slice (some ⟨g, 0, none⟩) (bs.length + 1) cap) (bs ++ [b ||| (v * 2 ^ (8 - free) % 256)]) := by
    have := hst.1
    rw [List.set_append_right _ _ (by simp)] at this
    simpa [Row, byteV] using this
  have hgp : g ≠ p := by have := h.st.ne; simpa [Value.ownBlock] using this
  have hk1 : Kept (· = g) wr (wr.setCell ⟨g, bs.length, none⟩ (.int .u8 (b ||| (v * 2 ^ (8 - free) % 256) : Nat))) := (Kept.refl _ wr).setCell _ _ (.inl rfl)
  have hs1 : St (wr.setCell ⟨g, bs.length, none⟩ (.int .u8 (b ||| (v * 2 ^ (8 - free) % 256) : Nat))) p (.slice (some ⟨g, 0, none⟩) (bs.length + 1) cap) (bs ++ [b ||| (v * 2 ^ (8 - free) % 256)]) c := by
    refine ⟨hk1.cell h.st.cb (Ne.symm hgp), hk1.cell h.st.cc (Ne.symm hgp), (hk1.frozen h.st.lt (Ne.symm hgp)).trans h.st.fb, (hk1.frozen h.st.lt (Ne.symm hgp)).trans h.st.fc, hrow1, h.st.ne, ?_⟩
    intro y hy
    rcases List.mem_append.1 hy with hy | hy
    · exact h.st.byte y (by simp [hy])
    · simp at hy; subst hy; exact hx8
  have hsum : n256 (bs ++ [b ||| (v * 2 ^ (8 - free) % 256)]) = n256 (bs ++ [b]) + 2 ^ c * (v % 2 ^ free) := by rw [hx]; exact last_set bs b c free _ (by omega) hf8
  refine ⟨(hs1.setCount (c + min free n)).drewN nq, ?_, h.own, ?_, ?_, ?_, ?_, ?_, ?_, ?_⟩
  · have hk2 := (Kept.refl (Fp p v0) (wr.setCell ⟨g, bs.length, none⟩ (.int .u8 (b ||| (v * 2 ^ (8 - free) % 256) : Nat)))).setCell ⟨p, 1, none⟩ (.int .i64 (c + min free n : Nat)) (.inl (.inl rfl))
    refine (Kept.trans (H := Fp p v0) ?_ hk2 (fun _ _ e => e) (fun _ _ e => e)).drewN nq
    refine Kept.trans (H := Fp p v0) h.kept hk1 (fun _ _ e => e) ?_
    intro x hx' e
    rcases h.own with e' | e'
    · exact .inr (by rw [← e', e]; rfl)
    · have := e' x (by rw [e]; rfl); omega
  · rw [hsum, lay_step _ _ _ _ _ h.hv]; exact h.sum
  · have := h.cnt; omega
  · simp; omega
  · simp; omega
  · intro e; simp at e; omega
  · have hv := h.hv
    rw [Nat.div_lt_iff_lt_mul (Nat.two_pow_pos _), ← Nat.pow_add, show n - min free n + min free n = n by omega]
    exact hv
  · rw [hsum, Nat.pow_add]
    have h1 := h.hx
    have h2 : v % 2 ^ free < 2 ^ min free n := by
      by_cases hfn : free ≤ n
      · rw [Nat.min_eq_left hfn]; exact Nat.mod_lt _ (Nat.two_pow_pos _)
      · rw [Nat.min_eq_right (by omega)]; exact Nat.lt_of_le_of_lt (Nat.mod_le _ _) h.hv
    have h3 : 2 ^ c * (v % 2 ^ free + 1) ≤ 2 ^ c * 2 ^ min free n := Nat.mul_le_mul_left _ h2
    rw [Nat.mul_add] at h3
    omega

theorem lays_rel {w0 wr : World} {p : Nat} {v0 s : Value} {X T v n c g cap b free m k : Nat} {bs bs1 : List Nat} (h : Lays w0 wr p v0 X T v n s bs1 c) (hs : s = .slice (some ⟨g, 0, none⟩) bs1.length cap) (hb : bs1 = bs ++ [b] ∧ m = bs.length)
    (hf : c + free = 8 * (m + 1)) (hf0 : 0 < free) (hn : 0 < n) (nq : Nat) {B V N C : Int} (hB : B = bits .or .u8 (b : Int) ((v : Int) * 2 ^ (8 - free) % 256)) (hV : V = (v : Int) / 2 ^ min free n) (hN : N = ((n - min free n : Nat) : Int)) (hC : C = ((c + min free n : Nat) : Int)) (hk : 2 * n - 1 ≤ k) :
    ∃ s' bs' c' v' n', Value.int .u32 V = Value.int .u32 (v' : Nat) ∧ Value.int .i64 N = Value.int .i64 (n' : Nat) ∧ (2 * n' + if c' = 8 * bs'.length then 1 else 0) ≤ k ∧
      Lays w0 (((wr.drewN nq).setCell ⟨g, m, none⟩ (.int .u8 B)).setCell ⟨p, 1, none⟩ (.int .i64 C)) p v0 X T v' n' s' bs' c' := by
  obtain ⟨rfl, rfl⟩ := hb
  rw [List.length_append, List.length_singleton] at hs
  subst hs
  have R := lays_put h hf hf0 hn nq
  have hb8 : b < 256 := h.st.byte b (by simp)
  have e : ((v : Int) * 2 ^ (8 - free) % 256) = ((v * 2 ^ (8 - free) % 256 : Nat) : Int) := by simp
  rw [e, u8_or_nat b _ hb8 (Nat.mod_lt _ (by decide))] at hB
  subst hB hN hC
  refine ⟨_, _, _, v / 2 ^ min free n, n - min free n, by rw [hV]; simp, rfl, ?_, R⟩
  split <;> omega

