/-
  Of the proof: parts Lay, Writer, Reader, Ref, Ref2, Lend, Of, LnHead, LnStep, HRowsW, LnRead, LnWrM, LnStepsM, LnPgM, LnShape, CopyK, LnRep, HDec, HDec2, HNew, LnTk, LnTs.
-/
import Derived.Laws.BitsAllLaws
import Derived.Deep.RegionLaw
import Derived.Laws.CopyOwn
import Derived.Laws.Bits64b
import Derived.Test.YtofhlnpbflkdlabDoorJ1
import Derived.Test.YtofhlnpbflkdlabDoorJ2

/-
  The writer's inner function 'lay'.
-/
namespace Go.Proofs.YtofhlnpbflkdlabDoor
open Go.RowKit


/-- What holds at each round's head. -/
structure Lays (w0 w : World) (p : Nat) (v0 : Value) (X T : Nat) (v n : Nat) (s : Value) (bs : List Nat) (c : Nat) : Prop where
  st : St w p s bs c
  kept : Kept (Fp p v0) w0 w
  own : s.ownBlock = v0.ownBlock ∨ ∀ k, s.ownBlock = some k → w0.heap.size ≤ k
  sum : n256 bs + v * 2 ^ c = X
  cnt : c + n = T
  lo : c ≤ 8 * bs.length
  hi : 8 * bs.length ≤ c + 8
  hn : 8 * bs.length = c + 8 → 0 < n
  hv : v < 2 ^ n
  hx : n256 bs < 2 ^ c

theorem lays_app {w0 wr w1 : World} {p : Nat} {v0 s v' : Value} {X T v n c nq : Nat} {bs : List Nat} (h : Lays w0 wr p v0 X T v n s bs c) (h8 : 8 * bs.length = c) (h0 : 0 < n) {o : Obj}
    (hrow : Row w1 v' (bs ++ [0])) (hg : ((wr.drewN nq).alloc o).grownBy w1 s.ownBlock)
    (hv' : v'.ownBlock = s.ownBlock ∨ v'.ownBlock = some (((wr.drewN nq).alloc o).heap.size)) :
    Lays w0 (w1.setCell ⟨p, 0, none⟩ v') p v0 X T v n v' (bs ++ [0]) c := by
  have hk1 : Kept (fun k => s.ownBlock = some k) wr w1 := (((Kept.refl _ wr).drewN nq).alloc o).grown hg (fun k e => .inl e)
  have hsz : w0.heap.size ≤ wr.heap.size := h.kept.size
  have hlt := h.st.lt
  have hv : v'.ownBlock = s.ownBlock ∨ ∀ k, v'.ownBlock = some k → wr.heap.size ≤ k := by
    rcases hv' with e | e
    · exact .inl e
    · refine .inr (fun k e' => ?_)
      rw [e] at e'
      simp at e'
      omega
  have hne : v'.ownBlock ≠ some p := by
    rcases hv with e | e
    · rw [e]; exact h.st.ne
    · intro e'; have := e p e'; omega
  refine ⟨h.st.setBytes hk1 hrow hne ?_, ?_, ?_, ?_, h.cnt, by simp; omega, by simp; omega, fun _ => h0, h.hv, ?_⟩
  · intro b hb
    rcases List.mem_append.1 hb with hb | hb
    · exact h.st.byte b hb
    · simp at hb; omega
  · refine (Kept.trans (H := Fp p v0) h.kept hk1 (fun _ _ e => e) ?_).setCell _ _ (.inl (.inl rfl))
    intro x hx e
    rcases h.own with e' | e'
    · exact .inr (by rw [← e', e])
    · have := e' x e; omega
  · rcases hv with e | e
    · rw [e]; exact h.own
    · exact .inr (fun k e' => Nat.le_trans hsz (e k e'))
  · rw [n256_append]; simpa [n256] using h.sum
  · rw [n256_append]; simpa [n256] using h.hx

theorem lays_end {w0 wr : World} {p : Nat} {v0 s : Value} {X T v c : Nat} {bs : List Nat} (h : Lays w0 wr p v0 X T v 0 s bs c) (nq : Nat) : Lays w0 (wr.drewN nq) p v0 X T 0 0 s bs T := by
  have e : T = c := by have := h.cnt; omega
  have hv : v = 0 := by have := h.hv; simp at this; exact this
  subst e hv
  exact ⟨h.st.drewN nq, h.kept.drewN nq, h.own, h.sum, rfl, h.lo, h.hi, h.hn, by simp, h.hx⟩

theorem lays_put {w0 wr : World} {p : Nat} {v0 : Value} {X T v n c g cap b free : Nat} {bs : List Nat} (h : Lays w0 wr p v0 X T v n (.slice (some ⟨g, 0, none⟩) (bs.length + 1) cap) (bs ++ [b]) c)
    (hf : c + free = 8 * (bs.length + 1)) (hf0 : 0 < free) (hn : 0 < n) (nq : Nat) :
    Lays w0 (((wr.drewN nq).setCell ⟨g, bs.length, none⟩ (.int .u8 (b ||| (v * 2 ^ (8 - free) % 256) : Nat))).setCell ⟨p, 1, none⟩ (.int .i64 (c + min free n : Nat))) p v0 X T (v / 2 ^ min free n) (n - min free n)
      (.slice (some ⟨g, 0, none⟩) (bs.length + 1) cap) (bs ++ [b ||| (v * 2 ^ (8 - free) % 256)]) (c + min free n) := by
  have hf8 : free ≤ 8 := by have := h.hi; simp at this; omega
  have hb := last_lt bs b c free (by omega) hf8 h.hx
  have hx : b ||| (v * 2 ^ (8 - free) % 256) = b + 2 ^ (8 - free) * (v % 2 ^ free) := by rw [shl_byte v free hf8]; exact or_add _ _ _ hb
  have hx8 : b ||| (v * 2 ^ (8 - free) % 256) < 256 := by
    have h1 : b < 2 ^ 8 := h.st.byte b (by simp)
    have h2 : v * 2 ^ (8 - free) % 256 < 2 ^ 8 := Nat.mod_lt _ (by decide)
    exact Nat.or_lt_two_pow h1 h2
  have hrow0 : Row wr (.slice (some ⟨g, 0, none⟩) (bs.length + 1) cap) (bs ++ [b]) := h.st.row
  have hst := World.ownsRow.stored (n := bs.length + 1) (by simpa [Row] using hrow0) bs.length (.int .u8 (b ||| (v * 2 ^ (8 - free) % 256) : Nat))
  have hrow1 : Row (wr.setCell ⟨g, bs.length, none⟩ (.int .u8 (b ||| (v * 2 ^ (8 - free) % 256) : Nat))) (.slice (some ⟨g, 0, none⟩) (bs.length + 1) cap) (bs ++ [b ||| (v * 2 ^ (8 - free) % 256)]) := by
    have := hst.1
    rw [List.set_append_right _ _ (by simp)] at this
    simpa [Row, byteV] using this
  have hgp : g ≠ p := by have := h.st.ne; simpa [Value.ownBlock] using this
  have hk1 : Kept (· = g) wr (wr.setCell ⟨g, bs.length, none⟩ (.int .u8 (b ||| (v * 2 ^ (8 - free) % 256) : Nat))) := (Kept.refl _ wr).setCell _ _ (.inl rfl)
  have hs1 : St (wr.setCell ⟨g, bs.length, none⟩ (.int .u8 (b ||| (v * 2 ^ (8 - free) % 256) : Nat))) p (.slice (some ⟨g, 0, none⟩) (bs.length + 1) cap) (bs ++ [b ||| (v * 2 ^ (8 - free) % 256)]) c := by
    refine ⟨hk1.cell h.st.cb (Ne.symm hgp), hk1.cell h.st.cc (Ne.symm hgp), (hk1.frozen h.st.lt (Ne.symm hgp)).trans h.st.fb, (hk1.frozen h.st.lt (Ne.symm hgp)).trans h.st.fc, hrow1, h.st.ne, ?_⟩
    intro y hy
    rcases List.mem_append.1 hy with hy | hy
    · exact h.st.byte y (by simp [hy])
    · simp at hy; subst hy; exact hx8
  have hsum : n256 (bs ++ [b ||| (v * 2 ^ (8 - free) % 256)]) = n256 (bs ++ [b]) + 2 ^ c * (v % 2 ^ free) := by rw [hx]; exact last_set bs b c free _ (by omega) hf8
  refine ⟨(hs1.setCount (c + min free n)).drewN nq, ?_, h.own, ?_, ?_, ?_, ?_, ?_, ?_, ?_⟩
  · have hk2 := (Kept.refl (Fp p v0) (wr.setCell ⟨g, bs.length, none⟩ (.int .u8 (b ||| (v * 2 ^ (8 - free) % 256) : Nat)))).setCell ⟨p, 1, none⟩ (.int .i64 (c + min free n : Nat)) (.inl (.inl rfl))
    refine (Kept.trans (H := Fp p v0) ?_ hk2 (fun _ _ e => e) (fun _ _ e => e)).drewN nq
    refine Kept.trans (H := Fp p v0) h.kept hk1 (fun _ _ e => e) ?_
    intro x hx' e
    rcases h.own with e' | e'
    · exact .inr (by rw [← e', e]; rfl)
    · have := e' x (by rw [e]; rfl); omega
  · rw [hsum, lay_step _ _ _ _ _ h.hv]; exact h.sum
  · have := h.cnt; omega
  · simp; omega
  · simp; omega
  · intro e; simp at e; omega
  · have hv := h.hv
    rw [Nat.div_lt_iff_lt_mul (Nat.two_pow_pos _), ← Nat.pow_add, show n - min free n + min free n = n by omega]
    exact hv
  · rw [hsum, Nat.pow_add]
    have h1 := h.hx
    have h2 : v % 2 ^ free < 2 ^ min free n := by
      by_cases hfn : free ≤ n
      · rw [Nat.min_eq_left hfn]; exact Nat.mod_lt _ (Nat.two_pow_pos _)
      · rw [Nat.min_eq_right (by omega)]; exact Nat.lt_of_le_of_lt (Nat.mod_le _ _) h.hv
    have h3 : 2 ^ c * (v % 2 ^ free + 1) ≤ 2 ^ c * 2 ^ min free n := Nat.mul_le_mul_left _ h2
    rw [Nat.mul_add] at h3
    omega

theorem lays_rel {w0 wr : World} {p : Nat} {v0 s : Value} {X T v n c g cap b free m k : Nat} {bs bs1 : List Nat} (h : Lays w0 wr p v0 X T v n s bs1 c) (hs : s = .slice (some ⟨g, 0, none⟩) bs1.length cap) (hb : bs1 = bs ++ [b] ∧ m = bs.length)
    (hf : c + free = 8 * (m + 1)) (hf0 : 0 < free) (hn : 0 < n) (nq : Nat) {B V N C : Int} (hB : B = bits .or .u8 (b : Int) ((v : Int) * 2 ^ (8 - free) % 256)) (hV : V = (v : Int) / 2 ^ min free n) (hN : N = ((n - min free n : Nat) : Int)) (hC : C = ((c + min free n : Nat) : Int)) (hk : 2 * n - 1 ≤ k) :
    ∃ s' bs' c' v' n', Value.int .u32 V = Value.int .u32 (v' : Nat) ∧ Value.int .i64 N = Value.int .i64 (n' : Nat) ∧ (2 * n' + if c' = 8 * bs'.length then 1 else 0) ≤ k ∧
      Lays w0 (((wr.drewN nq).setCell ⟨g, m, none⟩ (.int .u8 B)).setCell ⟨p, 1, none⟩ (.int .i64 C)) p v0 X T v' n' s' bs' c' := by
  obtain ⟨rfl, rfl⟩ := hb
  rw [List.length_append, List.length_singleton] at hs
  subst hs
  have R := lays_put h hf hf0 hn nq
  have hb8 : b < 256 := h.st.byte b (by simp)
  have e : ((v : Int) * 2 ^ (8 - free) % 256) = ((v * 2 ^ (8 - free) % 256 : Nat) : Int) := by simp
  rw [e, u8_or_nat b _ hb8 (Nat.mod_lt _ (by decide))] at hB
  subst hB hN hC
  refine ⟨_, _, _, v / 2 ^ min free n, n - min free n, by rw [hV]; simp, rfl, ?_, R⟩
  split <;> omega

set_option maxHeartbeats 1000000 in
theorem lay_any (w : World) (p : Nat) (s : Value) (bs : List Nat) (c v n : Nat) (hst : St w p s bs c) (hv : v < 2 ^ n) (hn : n ≤ 32) (hc : c ≤ 1000000000000)
    (hlo : c ≤ 8 * bs.length) (hhi : 8 * bs.length < c + 8) (hx : n256 bs < 2 ^ c) :
    Calls Tryd.prog 34 #[.pointer (some ⟨p, 0, none⟩), .int .u32 v, .int .i64 n] w fun e w' => e = .returned (.tuple #[]) ∧
      ∃ s' bs', Lays w w' p s (n256 bs + v * 2 ^ c) (c + n) 0 0 s' bs' (c + n) := by
  go_enter Tryd.func34, Tryd.ntmps34
  go_wp2
  go_step3
  go_wp2
  go_step3
  go_wp2
  go_loopg [1, 2] (2 * n + 1) (fun k x y wr => ∃ s' bs' c' v' n', x = .int .u32 (v' : Nat) ∧ y = .int .i64 (n' : Nat) ∧ 2 * n' + (if c' = 8 * bs'.length then 1 else 0) ≤ k ∧ Lays w wr p s (n256 bs + v * 2 ^ c) (c + n) v' n' s' bs' c')
  case atStart => exact ⟨s, bs, c, v, n, rfl, rfl, by split <;> omega, hst, Kept.refl _ _, .inl rfl, rfl, rfl, hlo, by omega, by omega, hv, hx⟩
  case round =>
    obtain ⟨s1, bs1, c1, v1, n1, rfl, rfl, hk, hl⟩ := hrel
    have HL : Hid (Lays w wr p s (n256 bs + v * 2 ^ c) (c + n) v1 n1 s1 bs1 c1) := hl
    have hcc := hl.st.cc
    have hcb := hl.st.cb
    have hfb := hl.st.fb
    have hfc := hl.st.fc
    have hlo1 := hl.lo
    have hhi1 := hl.hi
    have hcn := hl.cnt
    obtain ⟨ao, cap, hs, hg⟩ := hl.st.row.shape
    have HS : Hid (s1 = Value.slice ao bs1.length cap) := hs
    have HK : Hid (2 * n1 + (if c1 = 8 * bs1.length then 1 else 0) ≤ gk) := hk
    rw [hs] at hcb
    obtain ⟨L, hL⟩ : ∃ L, L = bs1.length := ⟨_, rfl⟩
    rw [← hL] at hcb hlo1 hhi1
    have HLL : Hid (L = bs1.length) := hL
    clear hk hL hst hlo hhi hx hv hs hg hl
    have hcn' : c1 + n1 ≤ 1000000000032 := by omega
    clear hcn
    by_cases h0 : n1 = 0
    · go_wp2
      go_quiet (fail)
      go_wp2
      rw [Exit.noGoto_normal]
      go_end0
      have hl := HL.out
      subst h0
      exact ⟨rfl, s1, bs1, lays_end hl nq⟩
    · by_cases h8 : 8 * L = c1
      · go_wp2
        go_quiet (fail)
        have hrow : Row (wr.drewN nq) (.slice ao L cap) bs1 := by have := HL.out.st.row; rw [HS.out, ← HLL.out] at this; exact this
        have HR : Hid (Row ((wr.drewN nq).alloc (.cells #[.int .u8 0] 5)) (.slice ao L cap) bs1) := World.ownsRow.alloc hrow _
        have HLn : Hid (bs1.length + [0].length ≤ 1000000000000) := by have := HLL.out; show bs1.length + 1 ≤ _; omega
        clear hrow
        go_wp2_with (at_builtin; refine wpList_append_row _ rfl (.tmp 65) (.tmp 66) rfl (.slice ao L cap) bs1 rfl HR.out ⟨wr.heap.size, 0, none⟩ 1 1 [0] rfl rfl (bytesAt_new _ 0) HLn.out ?_)
        intro v' w1 hrow hgr hv'
        have hl := HL.out
        have hs := HS.out
        rw [← HLL.out] at hs
        rw [← hs] at hgr hv'
        have R := lays_app hl (by rw [← HLL.out]; exact h8) (by omega) hrow hgr (by simpa using hv')
        have hk1 : Kept (fun k => s1.ownBlock = some k) wr w1 := (((Kept.refl _ wr).drewN nq).alloc _).grown hgr (fun k e => .inl e)
        have hcb1 := hk1.cell hl.st.cb hl.st.ne
        have hfb1 := (hk1.frozen (p := ⟨p, 0, none⟩) hl.st.lt hl.st.ne).trans hl.st.fb
        have hm : 2 * n1 + 1 ≤ gk := by have := HK.out; rw [if_pos (by rw [← HLL.out]; omega)] at this; exact this
        obtain ⟨ao', cap', hs', _⟩ := Row.shape hrow
        have RR : Hid (Lays w (w1.setCell ⟨p, 0, none⟩ v') p s (n256 bs + v * 2 ^ c) (c + n) v1 n1 v' (bs1 ++ [0]) c1) := R
        have eL : (bs1 ++ [0]).length = bs1.length + 1 := by simp
        rw [eL] at hs'
        rw [hs'] at RR ⊢
        clear hrow hgr hv' hl hs R hk1 hs' HR eL
        go_wp2
        go_roundg (2 * n1)
        case measure => omega
        case rel => exact ⟨_, _, c1, v1, n1, rfl, rfl, by rw [if_neg (by rw [List.length_append]; have := HLL.out; simp; omega)]; omega, RR.out⟩
      · obtain ⟨bs2, b, hb⟩ : ∃ bs2 b, bs1 = bs2 ++ [b] := by
          have hne : bs1 ≠ [] := by intro e; have := HLL.out; rw [e] at this; simp at this; omega
          exact ⟨bs1.dropLast, bs1.getLast hne, (List.dropLast_concat_getLast hne).symm⟩
        obtain ⟨m, hm⟩ : ∃ m, m = bs2.length := ⟨_, rfl⟩
        have hLm : L = m + 1 := by rw [HLL.out, hb, hm]; simp
        subst hLm
        have hl := HL.out
        obtain ⟨g, hao, hcell, hfr⟩ : ∃ g, ao = some ⟨g, 0, none⟩ ∧ wr.cell? ⟨g, m, none⟩ = some (.int .u8 (b : Nat)) ∧ wr.frozen? ⟨g, m, none⟩ = false := by
          obtain ⟨ao', cap', e1, e2⟩ := hl.st.row.shape
          have e3 := HS.out
          rw [e1] at e3
          injection e3 with e3 e4 e5
          obtain ⟨g, e6⟩ := e2 (by rw [hb]; simp)
          subst e3 e5 e6
          have hr := hl.st.row
          rw [e1] at hr
          refine ⟨g, rfl, ?_, ?_⟩
          · rw [Row.cell hr m (by rw [hb, hm]; simp)]; simp [hb, hm]
          · exact World.ownsRow.frozenAt hr m
        subst hao
        have HB : Hid (bs1 = bs2 ++ [b] ∧ m = bs2.length) := ⟨hb, hm⟩
        clear hb hm hl
        obtain ⟨f, hf⟩ : ∃ f, c1 + f = 8 * (m + 1) := ⟨8 * (m + 1) - c1, by omega⟩
        have hgp : ¬ p = g := by intro e; have := HL.out.st.ne; rw [HS.out] at this; exact this (by rw [e]; rfl)
        by_cases hfn : f ≤ n1
        · go_wp2
          go_quiet (fail)
          go_wp2_with fail
          go_region
          go_wp2
          have hm : 2 * n1 ≤ gk := by have := HK.out; omega
          go_roundg (2 * n1 - 1)
          case measure => omega
          case rel =>
            have hmf : min f n1 = f := by omega
            exact lays_rel HL.out HS.out HB.out hf (by omega) (by omega) (nq + 1) (by rw [show (m + 1) * 8 - c1 = f by omega]) (by rw [hmf, show (m + 1) * 8 - c1 = f by omega]) (by omega) (by omega) (Nat.le_refl _)
        · go_wp2
          go_quiet (fail)
          go_wp2_with fail
          go_region
          go_wp2
          have hm : 2 * n1 ≤ gk := by have := HK.out; omega
          go_roundg (2 * n1 - 1)
          case measure => omega
          case rel =>
            have hmf : min f n1 = n1 := by omega
            exact lays_rel HL.out HS.out HB.out hf (by omega) (by omega) (nq + 1) (by rw [show (m + 1) * 8 - c1 = f by omega]) (by rw [hmf]) (by omega) (by omega) (Nat.le_refl _)
end Go.Proofs.YtofhlnpbflkdlabDoor

/-
  The writer's calls.
-/
namespace Go.Proofs.YtofhlnpbflkdlabDoor
open Go.RowKit

/-- A writer at block p with the bits of the number X, c of them. -/
structure Wr (w : World) (p : Nat) (s : Value) (X c : Nat) : Prop where
  ex : ∃ bs, St w p s bs c ∧ n256 bs = X ∧ c ≤ 8 * bs.length ∧ 8 * bs.length < c + 8
  lt : X < 2 ^ c

/-- Where the bytes lie: where they lay, or in new memory. -/
def Grew (w : World) (s s' : Value) : Prop := s'.ownBlock = s.ownBlock ∨ ∀ k, s'.ownBlock = some k → w.heap.size ≤ k

theorem Wr.kept {F : Nat → Prop} {w w' : World} {p : Nat} {s : Value} {X c : Nat} (h : Wr w p s X c) (hk : Kept F w w') (hn : ∀ k, Fp p s k → ¬ F k) : Wr w' p s X c := by
  obtain ⟨bs, h1, h2⟩ := h.ex
  exact ⟨⟨bs, h1.kept hk hn, h2⟩, h.lt⟩

theorem Wr.fp_lt {w : World} {p : Nat} {s : Value} {X c : Nat} (h : Wr w p s X c) {k : Nat} (hk : Fp p s k) : k < w.heap.size := by
  obtain ⟨bs, h1, _⟩ := h.ex
  exact h1.fp_lt hk



set_option maxHeartbeats 400000 in
theorem fits_any (n : Int) (w : World) :
    Calls Tryd.prog 33 #[.int .i64 n] w fun e w' => e = .returned (.bool (decide (0 ≤ n ∧ n ≤ 32))) ∧ w' = w := by
  by_cases h0 : 0 ≤ n
  · by_cases h1 : n ≤ 32
    all_goals
      go_enter Tryd.func33, Tryd.ntmps33
      go_wp2
      go_ret
      exact ⟨by simp [h0, h1], rfl⟩
  · go_enter Tryd.func33, Tryd.ntmps33
    go_wp2
    go_ret
    exact ⟨by simp; omega, rfl⟩

theorem put_nil (v n : Int) (w : World) :
    Calls Tryd.prog 19 #[.pointer none, .int .u32 v, .int .i64 n] w fun e w' => e = .returned (.int .i64 3) ∧ w' = w := by
  go_enter Tryd.func19, Tryd.ntmps19
  go_wp2
  go_ret
  exact ⟨rfl, rfl⟩

set_option maxHeartbeats 400000 in
theorem put_far (p : Nat) (v n : Int) (w : World) (h : ¬ (0 ≤ n ∧ n ≤ 32)) :
    Calls Tryd.prog 19 #[.pointer (some ⟨p, 0, none⟩), .int .u32 v, .int .i64 n] w fun e w' => e = .returned (.int .i64 1) ∧ w' = w := by
  have hd : decide (0 ≤ n ∧ n ≤ 32) = false := by simpa using h
  clear h
  go_enter Tryd.func19, Tryd.ntmps19
  go_wp2_with (go_at_call 33; refine (fits_any _ _).mono ?_; rintro e w' ⟨rfl, rfl⟩; rw [hd])
  go_ret
  exact ⟨rfl, rfl⟩

set_option maxHeartbeats 400000 in
theorem put_wide (p v n : Nat) (w : World) (h : n ≤ 32) (hv : 2 ^ n ≤ v) :
    Calls Tryd.prog 19 #[.pointer (some ⟨p, 0, none⟩), .int .u32 (v : Nat), .int .i64 (n : Nat)] w fun e w' => e = .returned (.int .i64 1) ∧ w' = w := by
  have hd : decide (0 ≤ (n : Int) ∧ (n : Int) ≤ 32) = true := by simp; omega
  have hq : (v : Int) / 2 ^ n ≠ 0 := by
    rw [show ((v : Int) / 2 ^ n) = ((v / 2 ^ n : Nat) : Int) by simp]
    have : 1 ≤ v / 2 ^ n := (Nat.one_le_div_iff (Nat.two_pow_pos _)).2 hv
    omega
  go_enter Tryd.func19, Tryd.ntmps19
  go_wp2_with (go_at_call 33; refine (fits_any _ _).mono ?_; rintro e w' ⟨rfl, rfl⟩; rw [hd])
  go_ret
  exact ⟨rfl, rfl⟩

set_option maxHeartbeats 400000 in
theorem put_good (p v n X c : Nat) (s : Value) (w : World) (h : n ≤ 32) (hv : v < 2 ^ n) (hw : Wr w p s X c) (hc : c ≤ 1000000000000) :
    Calls Tryd.prog 19 #[.pointer (some ⟨p, 0, none⟩), .int .u32 (v : Nat), .int .i64 (n : Nat)] w fun e w' => e = .returned (.int .i64 0) ∧
      ∃ s', Wr w' p s' (X + v * 2 ^ c) (c + n) ∧ Kept (Fp p s) w w' ∧ Grew w s s' := by
  have hd : decide (0 ≤ (n : Int) ∧ (n : Int) ≤ 32) = true := by simp; omega
  have hq : (v : Int) / 2 ^ n = 0 := by
    rw [show ((v : Int) / 2 ^ n) = ((v / 2 ^ n : Nat) : Int) by simp, Nat.div_eq_of_lt hv]; rfl
  obtain ⟨bs, hst, hX, hlo, hhi⟩ := hw.ex
  have HX : Hid (n256 bs = X) := hX
  have HW : Hid (X < 2 ^ c) := hw.lt
  have HC := lay_any w p s bs c v n hst hv h hc hlo hhi (by rw [hX]; exact hw.lt)
  clear hX hw hst hlo hhi
  go_enter Tryd.func19, Tryd.ntmps19
  go_wp2_with (first | (go_at_call 33; refine (fits_any _ _).mono ?_; rintro e w' ⟨rfl, rfl⟩; rw [hd]) | (go_at_call 34; refine HC.mono ?_; rintro e w' ⟨rfl, s', bs', hl⟩))
  go_ret
  refine ⟨rfl, s', ⟨⟨bs', hl.st, ?_, hl.lo, ?_⟩, ?_⟩, hl.kept, hl.own⟩
  · have := hl.sum; rw [HX.out] at this; simpa using this
  · have := hl.hi; have := hl.hn; omega
  · have h1 := hl.sum
    have h2 := hl.hx
    rw [HX.out] at h1
    simp at h1
    omega











end Go.Proofs.YtofhlnpbflkdlabDoor

/-
  The reader's calls; the writer's Bytes; two rows of bytes held against one another.
-/
namespace Go.Proofs.YtofhlnpbflkdlabDoor
open Go.RowKit

theorem ret_int {k : IntKind} {a b : Int} (h : a = b) : Ending.returned (.int k a) = .returned (.int k b) := by rw [h]

theorem left_nil (w : World) :
    Calls Tryd.prog 52 #[.pointer none] w fun e w' => e = .returned (.int .i64 0) ∧ w' = w := by
  go_enter Tryd.func52, Tryd.ntmps52
  go_wp2
  go_ret
  exact ⟨rfl, rfl⟩

theorem left_any (p c : Nat) (s : Value) (bs : List Nat) (w : World) (h : St w p s bs c) (hc : c ≤ 8 * bs.length) (hlen : bs.length ≤ 100000000000) :
    Calls Tryd.prog 52 #[.pointer (some ⟨p, 0, none⟩)] w fun e w' => e = .returned (.int .i64 ((8 * bs.length - c : Nat) : Int)) ∧ ∃ m, w' = w.drewN m := by
  obtain ⟨ao, cap, hv, _⟩ := h.row.shape
  have hcb := h.cb
  have hcc := h.cc
  rw [hv] at hcb
  clear h hv
  go_enter Tryd.func52, Tryd.ntmps52
  go_wp2
  go_quiet (fail)
  go_wp2
  go_ret
  exact ⟨ret_int (by omega), _, rfl⟩

theorem gone_nil (w : World) :
    Calls Tryd.prog 12 #[.pointer none] w fun e w' => e = .returned (.int .i64 0) ∧ w' = w := by
  go_enter Tryd.func12, Tryd.ntmps12
  go_wp2
  go_ret
  exact ⟨rfl, rfl⟩

theorem gone_any (p c : Nat) (s : Value) (bs : List Nat) (w : World) (h : St w p s bs c) :
    Calls Tryd.prog 12 #[.pointer (some ⟨p, 0, none⟩)] w fun e w' => e = .returned (.int .i64 (c : Nat)) ∧ w' = w := by
  have hcc := h.cc
  clear h
  go_enter Tryd.func12, Tryd.ntmps12
  go_wp2
  go_ret
  exact ⟨rfl, rfl⟩

theorem back_nil (n : Int) (w : World) :
    Calls Tryd.prog 14 #[.pointer none, .int .i64 n] w fun e w' => e = .returned (.int .i64 3) ∧ w' = w := by
  go_enter Tryd.func14, Tryd.ntmps14
  go_wp2
  go_ret
  exact ⟨rfl, rfl⟩

theorem back_bad (p c : Nat) (n : Int) (s : Value) (bs : List Nat) (w : World) (h : St w p s bs c) (hn : n < 0 ∨ (c : Int) < n) :
    Calls Tryd.prog 14 #[.pointer (some ⟨p, 0, none⟩), .int .i64 n] w fun e w' => e = .returned (.int .i64 1) ∧ w' = w := by
  have hcc := h.cc
  clear h
  by_cases h0 : n < 0
  · clear hn
    go_enter Tryd.func14, Tryd.ntmps14
    go_wp2
    go_ret
    exact ⟨rfl, rfl⟩
  · have h1 : (c : Int) < n := by omega
    clear hn
    go_enter Tryd.func14, Tryd.ntmps14
    go_wp2
    go_ret
    exact ⟨rfl, rfl⟩

theorem back_good (p c n : Nat) (s : Value) (bs : List Nat) (w : World) (h : St w p s bs c) (hn : n ≤ c) (hc : c ≤ 1000000000000) :
    Calls Tryd.prog 14 #[.pointer (some ⟨p, 0, none⟩), .int .i64 (n : Nat)] w fun e w' => e = .returned (.int .i64 0) ∧ St w' p s bs (c - n) ∧ Kept (· = p) w w' := by
  have hcc := h.cc
  have hfc := h.fc
  have HS : Hid (St w p s bs c) := h
  clear h
  go_enter Tryd.func14, Tryd.ntmps14
  go_wp2
  go_ret
  refine ⟨rfl, ?_, (Kept.refl _ w).setCell _ _ (.inl rfl)⟩
  have := HS.out.setCount (c - n)
  rw [show ((c - n : Nat) : Int) = (c : Int) - (n : Int) by omega] at this
  exact this





theorem take_nil (n : Int) (w : World) :
    Calls Tryd.prog 41 #[.pointer none, .int .i64 n] w fun e w' => e = .returned (.tuple #[.int .u32 0, .int .i64 3]) ∧ w' = w := by
  go_enter Tryd.func41, Tryd.ntmps41
  go_wp2
  go_ret2
  exact ⟨rfl, rfl⟩

theorem take_far (p : Nat) (n : Int) (w : World) (h : ¬ (0 ≤ n ∧ n ≤ 32)) :
    Calls Tryd.prog 41 #[.pointer (some ⟨p, 0, none⟩), .int .i64 n] w fun e w' => e = .returned (.tuple #[.int .u32 0, .int .i64 1]) ∧ w' = w := by
  have hd : decide (0 ≤ n ∧ n ≤ 32) = false := by simpa using h
  clear h
  go_enter Tryd.func41, Tryd.ntmps41
  go_wp2_with (go_at_call 33; refine (fits_any _ _).mono ?_; rintro e w' ⟨rfl, rfl⟩; rw [hd])
  go_ret2
  exact ⟨rfl, rfl⟩

set_option maxHeartbeats 400000 in
theorem take_end (p c n : Nat) (s : Value) (bs : List Nat) (w : World) (h : St w p s bs c) (hc : c ≤ 8 * bs.length) (hlen : bs.length ≤ 100000000000) (hn : n ≤ 32) (hm : 8 * bs.length < c + n) :
    Calls Tryd.prog 41 #[.pointer (some ⟨p, 0, none⟩), .int .i64 (n : Nat)] w fun e w' => e = .returned (.tuple #[.int .u32 0, .int .i64 10]) ∧ ∃ m, w' = w.drewN m := by
  have hd : decide (0 ≤ (n : Int) ∧ (n : Int) ≤ 32) = true := by simp; omega
  have hh : ((8 * bs.length - c : Nat) : Int) < (n : Int) := by omega
  have HC := left_any p c s bs w h hc hlen
  obtain ⟨q, hq⟩ : ∃ q, q = 8 * bs.length - c := ⟨_, rfl⟩
  rw [← hq] at HC hh
  clear h hc hlen hm hq
  go_enter Tryd.func41, Tryd.ntmps41
  go_wp2_with (first | (go_at_call 33; refine (fits_any _ _).mono ?_; rintro e w' ⟨rfl, rfl⟩; rw [hd]) | (go_at_call 52; refine HC.mono ?_; rintro e w' ⟨rfl, mq, rfl⟩))
  go_ret2
  exact ⟨rfl, _, rfl⟩

set_option maxHeartbeats 400000 in
theorem take_good (p c n : Nat) (s : Value) (bs : List Nat) (w : World) (h : St w p s bs c) (hlen : bs.length ≤ 100000000000) (hn : n ≤ 32) (hm : c + n ≤ 8 * bs.length) :
    Calls Tryd.prog 41 #[.pointer (some ⟨p, 0, none⟩), .int .i64 (n : Nat)] w fun e w' => e = .returned (.tuple #[.int .u32 (n256 bs / 2 ^ c % 2 ^ n : Nat), .int .i64 0]) ∧
      St w' p s bs (c + n) ∧ Kept (· = p) w w' := by
  have hd : decide (0 ≤ (n : Int) ∧ (n : Int) ≤ 32) = true := by simp; omega
  have hh : ¬ ((8 * bs.length - c : Nat) : Int) < (n : Int) := by omega
  have HC := left_any p c s bs w h (by omega) hlen
  have HD := fun m => cut_any (w.drewN m) p s bs c n (h.drewN m) hn hm hlen
  obtain ⟨q, hq⟩ : ∃ q, q = 8 * bs.length - c := ⟨_, rfl⟩
  rw [← hq] at HC hh
  clear h hlen hm hq
  go_enter Tryd.func41, Tryd.ntmps41
  go_wp2_with (first | (go_at_call 33; refine (fits_any _ _).mono ?_; rintro e w' ⟨rfl, rfl⟩; rw [hd]) | (go_at_call 52; refine HC.mono ?_; rintro e w' ⟨rfl, mq, rfl⟩) | (go_at_call 53; refine (HD mq).mono ?_; rintro e w' ⟨rfl, hs', hk'⟩))
  go_ret2
  exact ⟨rfl, hs', ⟨hk'.os, hk'.tape, hk'.output, hk'.size, hk'.block⟩⟩



set_option maxHeartbeats 400000 in
theorem newReader_any (v : Value) (I : Nat → Prop) (cs : List Nat) (w : World) (h : Src w I v cs) (hlen : cs.length ≤ 100000000000) (hb : ∀ b ∈ cs, b < 256) :
    Calls Tryd.prog 9 #[v] w fun e w' => ∃ p s, e = .returned (.pointer (some ⟨p, 0, none⟩)) ∧ St w' p s cs 0 ∧ Kept (fun _ => False) w w' ∧ (∀ k, Fp p s k → w.heap.size ≤ k) := by
  obtain ⟨ao, cap, rfl, hsrc⟩ := id h
  have HS : Hid (Src w I (.slice ao cs.length cap) cs) := h
  clear h hsrc
  go_enter Tryd.func9, Tryd.ntmps9
  go_wp2_with (first | (at_make; refine wpList_make_bytes _ rfl _ _ rfl _ _ _ _ cs.length rfl rfl rfl rfl (by omega) ?_; intro w1 hr1 hg1 hs1; have HR : Hid (Row w1 (.slice (some ⟨w.heap.size, 0, none⟩) cs.length cs.length) (List.replicate cs.length 0)) := hr1; have HK : Hid (Kept (fun _ => False) w w1) := (Kept.refl _ w).grown hg1 (by simp); clear hr1 hg1) | (with_reducible refine atCopy ?_; refine wpList_copy_bytes _ rfl (.tmp 12) (.tmp 13) rfl w.heap.size cs.length cs.length ao cs.length cap (List.replicate cs.length 0) cs I rfl rfl (World.ownsRow.alloc HR.out _) (HS.out.kept (HK.out.alloc _) (fun _ _ _ h => h)) (by simp) ?_; intro w2 hr2 hg2 hs2))
  go_ret
  have hk2 : Kept (· = w.heap.size) (w1.alloc (.cells #[.slice (some ⟨w.heap.size, 0, none⟩) cs.length cs.length, .int .i64 0] 57)) w2 := (Kept.refl _ _).grown hg2 (fun k e => .inl (by simpa using e.symm))
  have hne : ¬ w1.heap.size = w.heap.size := by omega
  refine ⟨w1.heap.size, .slice (some ⟨w.heap.size, 0, none⟩) cs.length cs.length, rfl, ⟨hk2.cell (by simp) hne, hk2.cell (by simp) hne, (hk2.frozen (by simp) hne).trans (by simp), (hk2.frozen (by simp) hne).trans (by simp), ?_, by simp [Value.ownBlock]; omega, hb⟩, ?_, ?_⟩
  · simpa using hr2
  · exact Kept.trans (H := fun _ => False) (HK.out.alloc _) hk2 (fun _ _ h => h) (fun x hx e => by omega)
  · intro k hk
    rcases hk with rfl | hk
    · exact HK.out.size
    · simp [Value.ownBlock] at hk; omega





end Go.Proofs.YtofhlnpbflkdlabDoor

/-
  The reference's calls on rows of bits; what is written over.
-/
namespace Go.Proofs.YtofhlnpbflkdlabDoor
open Go.RowKit

/-- A row that came from another row by appending: what is known of it. -/
structure Grows (w w' : World) (v v' : Value) (bs : List Nat) : Prop where
  row : Row w' v' bs
  kept : Kept (fun k => v.ownBlock = some k) w w'
  own : Grew w v v'

theorem Grows.refl {w : World} {v : Value} {bs : List Nat} (h : Row w v bs) : Grows w w v v bs := ⟨h, Kept.refl _ _, .inl rfl⟩

/-- One byte more. -/
theorem Grows.app {w wr w1 : World} {v v1 v' : Value} {bs : List Nat} {x : Nat} {o : Obj} (h : Grows w wr v v1 bs) (hrow : Row w1 v' (bs ++ [x])) (hg : (wr.alloc o).grownBy w1 v1.ownBlock) (ho : v'.ownBlock = v1.ownBlock ∨ v'.ownBlock = some (wr.alloc o).heap.size) : Grows w w1 v v' (bs ++ [x]) := by
  have hsz := h.kept.size
  refine ⟨hrow, ?_, ?_⟩
  · refine Kept.grown (h.kept.alloc o) hg (fun k e => ?_)
    rcases h.own with e' | e'
    · exact .inl (by rw [← e', e])
    · exact .inr (e' k e)
  · rcases ho with e | e
    · rcases h.own with e' | e'
      · exact .inl (by rw [e, e'])
      · exact .inr (fun k hk => e' k (by rw [← e, hk]))
    · refine .inr (fun k hk => ?_)
      rw [e] at hk
      simp at hk
      omega



/-- How many noughts Align lays. -/
def gap (n : Nat) : Nat := (n + 7) / 8 * 8 - n



end Go.Proofs.YtofhlnpbflkdlabDoor

/-
  The reference's Bytes; what is written over.
-/
namespace Go.Proofs.YtofhlnpbflkdlabDoor
open Go.RowKit

theorem Grows.ofNil {w wr : World} {v v' : Value} {bs : List Nat} (h : Grows w wr v v' bs) (hv : v.ownBlock = none) : Kept (fun _ => False) w wr ∧ ∀ k, v'.ownBlock = some k → w.heap.size ≤ k := by
  refine ⟨h.kept.mono (fun x _ e => by rw [hv] at e; cases e), fun k hk => ?_⟩
  rcases h.own with e | e
  · rw [e, hv] at hk; cases hk
  · exact e k hk



/-- A byte of a row is written. -/
theorem Row.set {w : World} {g n cap : Nat} {ds : List Nat} (h : Row w (.slice (some ⟨g, 0, none⟩) n cap) ds) (j x : Nat) : Row (w.setCell ⟨g, j, none⟩ (.int .u8 x)) (.slice (some ⟨g, 0, none⟩) n cap) (ds.set j x) := by
  have hl : ds.length = n := by
    rcases h.2 with ⟨e, _⟩ | ⟨_, _, _, e, _⟩
    · simp at e
    · injection e with _ e _; exact e.symm
  subst hl
  have := (World.ownsRow.stored h j (.int .u8 x)).1
  rw [show (Value.int .u8 x) = byteV x from rfl, ← List.map_set] at this
  unfold Row
  rw [List.length_set]
  exact this



end Go.Proofs.YtofhlnpbflkdlabDoor

/-
  What is lent and comes back; a reader's More; the bits of bytes.
-/
namespace Go.Proofs.YtofhlnpbflkdlabDoor
open Go.RowKit

/-- append of whatever source of bytes. -/
theorem wpList_append_src {ops : Array Oper} {rest : List Oper} {o : Oper} {a : Act} {Q : Exit → Act → World → Prop} (w : World) (hgd : o.guard = none) (s x : Operand)
    (ho : o.op = .call { callee := .builtin .append, args := #[s, x], argTypes := #[38, 38] })
    (v : Value) (bs : List Nat) (hs : a.eval s = v) (hrow : Row w v bs) (I : Nat → Prop) (xv : Value) (cs : List Nat) (hx : a.eval x = xv) (hnil : ∀ n c, xv = .slice none n c → n = 0 ∧ c = 0) (hsrc : Src w I xv cs) (hlen : bs.length + cs.length ≤ 1000000000000)
    (h : ∀ v' w', Row w' v' (bs ++ cs) → w.grownBy w' v.ownBlock → (v'.ownBlock = v.ownBlock ∨ v'.ownBlock = some w.heap.size) → wpList Tryd.prog ops Q rest (a.put o.dst v') w') : wpList Tryd.prog ops Q (o :: rest) a w := by
  obtain ⟨ao, cap, rfl, hc⟩ := id hsrc
  cases ao with
  | some ad =>
    refine wpList_append_row w hgd s x ho v bs hs hrow ad cs.length cap cs hx rfl ?_ hlen h
    by_cases h0 : cs = []
    · subst h0; intro j u hu; simp at hu
    · obtain ⟨a', e, hb⟩ := (Src.at hsrc).2 h0
      injection e with e
      subst e
      exact hb
  | none =>
    obtain ⟨h0, h1⟩ := hnil _ _ rfl
    have hcs : cs = [] := List.eq_nil_of_length_eq_zero h0
    subst hcs h1
    obtain ⟨i0, hi, hz0, hz1, hz2⟩ := info_parts Tryd.info8
    refine wpList_plain hgd fun K hK => ?_
    have hr := run_append_owned_none (P := Tryd.prog) w 0 38 o.type 5 i0 1 Tryd.underlying38 hi v bs.length (bs.map byteV) hrow
    unfold Oper.wp execOp
    simp only [ho, resolve, invoke, builtin, Sem.run_bind, Sem.run_pure, Result.andThen_ok, List.map_toArray, List.map_cons, List.map_nil, hs, hx, List.length_nil, hr]
    exact hK _ _ (h v w (by simpa using hrow) (World.grownBy.refl _ _) (.inl rfl))







end Go.Proofs.YtofhlnpbflkdlabDoor

/-
  The reference's Of and Number.
-/
namespace Go.Proofs.YtofhlnpbflkdlabDoor
open Go.RowKit





end Go.Proofs.YtofhlnpbflkdlabDoor

/-
  The reference's head: take, step.
-/
namespace Go.Proofs.YtofhlnpbflkdlabDoor
open Go.RowKit



/-- A number is taken: what is told, the place, the error. -/
def hTake (ls : List Nat) (c e n : Nat) : Nat × Nat × Nat :=
  if e ≠ 0 then (0, c, e) else if ls.length < c + n then (0, c, 10) else (numAt ls c n, c + n, 0)



end Go.Proofs.YtofhlnpbflkdlabDoor

/-
  The reference's head: step.
-/
namespace Go.Proofs.YtofhlnpbflkdlabDoor
open Go.RowKit

theorem RW.kept {F : Nat → Prop} {w0 w' w2 : World} {go n : Nat} {ns : List Nat} {p : Nat → Prop} {rs : List (Option Addr × Nat × Nat)} (h : RW w0 w' go n ns p rs) (hk : Kept F w' w2) (h1 : ∀ k, k < w0.heap.size → ¬ F k) (h2 : ¬ F go) (h3 : ∀ s (hs : s < rs.length), p s → ∀ k, (slV rs[s]).ownBlock = some k → ¬ F k) : RW w0 w2 go n ns p rs :=
  ⟨h.row.kept hk (fun k e => by simp [Value.ownBlock] at e; subst e; exact h2), fun s hs hp => ⟨(h.have' s hs hp).1.kept hk (fun k e => h3 s hs hp k e), (h.have' s hs hp).2⟩, h.none', Same.then h.same hk h1⟩

/-- The blocks of the rows lie apart from one. -/
def RowsOff (w0 : World) (go : Nat) (ns : List Nat) (rs : List (Option Addr × Nat × Nat)) (h : Nat) : Prop := w0.heap.size ≤ h ∧ go ≠ h ∧ ∀ s (hs : s < rs.length), key ns s ≠ 0 → (slV rs[s]).ownBlock ≠ some h

theorem RW.off {w0 w' w2 : World} {go n h : Nat} {ns : List Nat} {rs : List (Option Addr × Nat × Nat)} (hr : RW w0 w' go n ns (fun s => key ns s ≠ 0) rs) (ho : RowsOff w0 go ns rs h) (hk : Kept (· = h) w' w2) : RW w0 w2 go n ns (fun s => key ns s ≠ 0) rs :=
  hr.kept hk (fun k hk e => by have := ho.1; omega) ho.2.1 (fun s hs hp k e e2 => by subst e2; exact ho.2.2 s hs hp e)









end Go.Proofs.YtofhlnpbflkdlabDoor

/-
  The reference's Rows, walked.
-/
namespace Go.Proofs.YtofhlnpbflkdlabDoor
open Go.RowKit

/-- The counters of Rows: the last code, the last length. -/
def Cnt (ns : List Nat) (n i code last : Nat) : Prop := (last = 0 ∧ code = 0 ∧ sumP ns n i = 0) ∨ (0 < last ∧ last ≤ n ∧ (code + 1) * 2 ^ (15 - last) = sumP ns n i)

theorem sumP_le (ns : List Nat) (n i : Nat) : sumP ns n i ≤ measure ns := by
  unfold sumP
  rw [← sumTo_all]
  unfold sumTo
  rw [List.take_of_length_le (Nat.le_refl _)]
  generalize ris ns = l
  induction l with
  | nil => simp
  | cons a r ih =>
    rw [List.filter_cons]
    split
    · simp only [List.map_cons, List.sum_cons]; omega
    · simp only [List.map_cons, List.sum_cons]; omega

theorem Cnt.code_le {ns : List Nat} {n i code last : Nat} (h : Cnt ns n i code last) (hm : measure ns ≤ 32768) : code ≤ 32768 := by
  rcases h with ⟨_, h, _⟩ | ⟨_, _, h⟩
  · omega
  · have h1 := sumP_le ns n i
    have h2 : (code + 1) * 1 ≤ (code + 1) * 2 ^ (15 - last) := Nat.mul_le_mul_left _ (Nat.two_pow_pos _)
    omega

/-- The code of a symbol that comes. -/
theorem Cnt.hit {ns : List Nat} {n i code last : Nat} (h : Cnt ns n i code last) (hk : key ns i = n) (hn : n ≤ 15) : codeOf ns i = (if 0 < last then (code + 1) * 2 ^ (n - last) else code) := by
  have h1 := code_start ns i
  have h2 := sumP_hit ns i
  rw [hk] at h1 h2
  rw [← h2] at h1
  rcases h with ⟨e1, e2, e3⟩ | ⟨e1, e2, e3⟩
  · rw [if_neg (by omega), e2]
    rw [e3] at h1
    rcases Nat.mul_eq_zero.1 h1 with h | h
    · exact h
    · have := Nat.two_pow_pos (15 - n); omega
  · rw [if_pos e1]
    have e4 : (code + 1) * 2 ^ (n - last) * 2 ^ (15 - n) = codeOf ns i * 2 ^ (15 - n) := by
      rw [Nat.mul_assoc, ← Nat.pow_add, show n - last + (15 - n) = 15 - last by omega, e3, h1]
    exact (Nat.eq_of_mul_eq_mul_right (Nat.two_pow_pos _) e4).symm

theorem Cnt.next {ns : List Nat} {i : Nat} (hi : i ∈ ris ns) : Cnt ns (key ns i) (i + 1) (codeOf ns i) (key ns i) := by
  refine .inr ⟨by have := (mem_ris.1 hi).2; omega, Nat.le_refl _, ?_⟩
  rw [sumP_next ns i hi, Nat.add_mul, code_start, Nat.one_mul]

theorem Cnt.miss {ns : List Nat} {n i code last : Nat} (h : Cnt ns n i code last) (hk : key ns i ≠ n) : Cnt ns n (i + 1) code last := by
  unfold Cnt
  rw [sumP_miss ns n i hk]
  exact h

theorem Cnt.round {ns : List Nat} {n code last : Nat} (h : Cnt ns n ns.length code last) : Cnt ns (n + 1) 0 code last := by
  unfold Cnt
  rw [← sumP_round]
  rcases h with h | ⟨h1, h2, h3⟩
  · exact .inl h
  · exact .inr ⟨h1, by omega, h3⟩

/-- The symbols whose rows are laid. -/
def laidR (ns : List Nat) (n i s : Nat) : Prop := key ns s ≠ 0 ∧ pre ns n i s



end Go.Proofs.YtofhlnpbflkdlabDoor

/-
  The reference's Read.
-/
namespace Go.Proofs.YtofhlnpbflkdlabDoor
open Go.RowKit

/-- A literal row of numbers. -/
theorem src_nats (w : World) (zs : List Nat) (n : Nat) (hn : zs.length = n) : SrcE natV (w.alloc (.cells (zs.map natV).toArray 3)) (fun k => k = w.heap.size) (.slice (some ⟨w.heap.size, 0, none⟩) n n) zs := by
  subst hn
  refine ⟨_, _, rfl, Nat.le_refl _, fun _ => ⟨_, _, rfl, rfl, fun j hj => ?_⟩⟩
  simp [hj]

theorem RW.down {w w0 w' : World} {go n : Nat} {ns : List Nat} {p : Nat → Prop} {rs : List (Option Addr × Nat × Nat)} (h : RW w0 w' go n ns p rs) (hk : Same w w0) : RW w w' go n ns p rs :=
  ⟨RowE.base h.row hk.size, fun s hs hp => ⟨(h.have' s hs hp).1, fun k e => Nat.le_trans hk.size ((h.have' s hs hp).2 k e)⟩, h.none', Same.trans hk h.same⟩

theorem chk_codes (l : List Nat) (hl : l.length = 19) (h7 : ∀ x ∈ l, x ≤ 7) : chk (l.map (fun (n : Nat) => (n : Int))) = chkN l := by
  have hok : okAll (l.map (fun (n : Nat) => (n : Int))) 0 15 = true := by
    simp only [okAll, List.length_map, Bool.and_eq_true, decide_eq_true_eq, Bool.not_eq_true', List.any_eq_false]
    refine ⟨⟨by omega, by omega⟩, fun z hz => ?_⟩
    obtain ⟨n, hn, rfl⟩ := List.mem_map.1 hz
    have := h7 n hn
    simp [badI]; omega
  unfold chk
  rw [if_pos hok, List.map_map]
  have e : l.map (Int.toNat ∘ fun (n : Nat) => (n : Int)) = l := by
    conv => rhs; rw [← List.map_id l]
    exact List.map_congr_left (fun n _ => by simp)
  rw [e]

theorem stepF_le {ns ls : List Nat} {c s x c' : Nat} (h : stepF ns ls c = .ok ((s, x), c')) : c' ≤ ls.length := by
  unfold stepF at h
  split at h
  · cases h
  · split at h
    · cases h
    · simp only [Except.ok.injEq, Prod.mk.injEq] at h
      omega

theorem bodyF_step {ns ls : List Nat} {N f c s x c' : Nat} {l : List Nat} (hl : l.length < N) (hs : stepF ns ls c = .ok ((s, x), c')) : bodyF ns ls N (f + 1) l c = match withM l ((s : Int), (x : Int)) N with | none => .error 41 | some m => bodyF ns ls N f m c' := by
  simp only [bodyF]
  rw [if_neg (by omega), hs]
  rfl

theorem bodyF_err {ns ls : List Nat} {N f c e : Nat} {l : List Nat} (hl : l.length < N) (hs : stepF ns ls c = .error e) : bodyF ns ls N (f + 1) l c = .error e := by
  simp only [bodyF]
  rw [if_neg (by omega), hs]

theorem bodyF_end {ns ls : List Nat} {N f c : Nat} {l : List Nat} (hl : N ≤ l.length) : bodyF ns ls N f l c = .ok (l, c) := by
  cases f with
  | zero => rfl
  | succ f => simp only [bodyF]; rw [if_pos hl]

/-- An answer of Read. -/
def ReadA (w w' : World) (r : Ending) : Except Nat ((List Nat × List Nat) × Nat) → Prop
  | .error e => r = .returned (.tuple #[.slice none 0 0, .slice none 0 0, .int .i64 0, .int .i64 (e : Nat)]) ∧ Same w w'
  | .ok ((a, b), n) => (∃ va vb, r = .returned (.tuple #[va, vb, .int .i64 (n : Nat), .int .i64 0]) ∧ SrcE natV w' (fun k => w.heap.size ≤ k) va a ∧ SrcE natV w' (fun k => w.heap.size ≤ k) vb b) ∧ Same w w'

theorem hTake_ok {ls : List Nat} {c n : Nat} (h : c + n ≤ ls.length) : hTake ls c 0 n = (numAt ls c n, c + n, 0) := by
  unfold hTake
  rw [if_neg (by simp), if_neg (by omega)]
theorem hTake_le (ls : List Nat) (c e n : Nat) (hc : c ≤ ls.length) : (hTake ls c e n).2.1 ≤ ls.length := by
  unfold hTake
  split
  · exact hc
  · split
    · exact hc
    · simp only; omega
theorem hTake_stuck {ls : List Nat} {c e n : Nat} (h : e ≠ 0) : hTake ls c e n = (0, c, e) := by unfold hTake; rw [if_pos h]
theorem hTake_end {ls : List Nat} {c n : Nat} (h : ls.length < c + n) : hTake ls c 0 n = (0, c, 10) := by
  unfold hTake
  rw [if_neg (by simp), if_pos h]

/-- Three numbers that are not there. -/
theorem hTake_three (ls : List Nat) (a : Nat) (h : ls.length < a + 14) (t1 t2 t3 : Nat × Nat × Nat) (h1 : hTake ls a 0 5 = t1) (h2 : hTake ls t1.2.1 t1.2.2 5 = t2) (h3 : hTake ls t2.2.1 t2.2.2 4 = t3) : t3.2.2 = 10 := by
  by_cases k1 : ls.length < a + 5
  · rw [hTake_end k1] at h1
    subst h1
    rw [hTake_stuck (by simp)] at h2
    subst h2
    rw [hTake_stuck (by simp)] at h3
    subst h3
    rfl
  · rw [hTake_ok (by omega)] at h1
    subst h1
    simp only at h2
    by_cases k2 : ls.length < a + 5 + 5
    · rw [hTake_end k2] at h2
      subst h2
      rw [hTake_stuck (by simp)] at h3
      subst h3
      rfl
    · rw [hTake_ok (by omega)] at h2
      subst h2
      simp only at h3
      rw [hTake_end (by omega)] at h3
      subst h3
      rfl

theorem stepF_ge {ns ls : List Nat} {c s x c' : Nat} (h : stepF ns ls c = .ok ((s, x), c')) : c ≤ c' := by
  unfold stepF at h
  split at h
  · cases h
  · split at h
    · cases h
    · simp only [Except.ok.injEq, Prod.mk.injEq] at h
      omega

/-- The lengths of the steps' codes, as they are read: all is well, or the bits have ended. -/
def CodesAt (ls : List Nat) (a i c e : Nat) (xs : List Nat) : Prop := (a + 14 + 3 * i ≤ ls.length ∧ c = a + 14 + 3 * i ∧ e = 0 ∧ xs = codesF ls (a + 14) i) ∨ (ls.length < a + 14 + 3 * i ∧ e = 10)

theorem CodesAt.next {ls : List Nat} {a i c e : Nat} {xs : List Nat} (h : CodesAt ls a i c e xs) {x c' e' : Nat} (ht : hTake ls c e 3 = (x, c', e')) : CodesAt ls a (i + 1) c' e' (xs.set (ord.getD i 0) x) := by
  rcases h with ⟨h1, rfl, rfl, rfl⟩ | ⟨h1, rfl⟩
  · by_cases hf : a + 14 + 3 * i + 3 ≤ ls.length
    · rw [hTake_ok hf] at ht
      simp only [Prod.mk.injEq] at ht
      obtain ⟨rfl, rfl, rfl⟩ := ht
      exact .inl ⟨by omega, by omega, rfl, rfl⟩
    · rw [hTake_end (by omega)] at ht
      simp only [Prod.mk.injEq] at ht
      obtain ⟨rfl, rfl, rfl⟩ := ht
      exact .inr ⟨by omega, rfl⟩
  · rw [hTake_stuck (by decide)] at ht
    simp only [Prod.mk.injEq] at ht
    obtain ⟨rfl, rfl, rfl⟩ := ht
    exact .inr ⟨by omega, rfl⟩

theorem ord_le : ∀ i, i < 19 → ord.getD i 0 ≤ 18 := by decide

theorem numAt3 (ls : List Nat) (h : ∀ b ∈ ls, b < 2) (c e : Nat) : (hTake ls c e 3).1 ≤ 7 := by
  have := numAt_lt ls h c 3
  unfold hTake
  split
  · simp
  · split
    · simp
    · simp only; omega

end Go.Proofs.YtofhlnpbflkdlabDoor

/-
  A head that is laid is read as what was laid.
-/
namespace Go.Proofs.YtofhlnpbflkdlabDoor

theorem fitL_iff {ns : List Nat} {s : Nat} (hm : measure ns ≤ 32768) (hs : s ∈ ris ns) (h15 : key ns s ≤ 15) (t : List Nat) (ht : ∀ b ∈ t, b < 2) : Fit ns t s ↔ key ns s ≤ t.length ∧ rv (key ns s) (n2 t) = codeOf ns s := by
  have hcl := code_lt2 hm hs h15
  have hpart : ∀ n, n ≤ t.length → n2 (t.take n) = n2 t % 2 ^ n := fun n hn => by
    have := n2_part t ht 0 n (by omega)
    simpa using this
  unfold Fit
  rw [List.prefix_iff_eq_take, rowOf_length]
  constructor
  · rintro ⟨_, h⟩
    have hl := congrArg List.length h
    rw [rowOf_length, List.length_take] at hl
    have hk : key ns s ≤ t.length := by omega
    refine ⟨hk, ?_⟩
    have h2 := congrArg n2 h
    rw [rowOf_n2, hpart _ hk] at h2
    rw [← rv_mod (key ns s) (key ns s) _ (Nat.le_refl _), ← h2, rv_rv, Nat.mod_eq_of_lt hcl]
  · rintro ⟨hk, h⟩
    refine ⟨(mem_ris.1 hs).2, ?_⟩
    refine n2_inj _ _ (by rw [rowOf_length, List.length_take]; omega) (rowOf_bit ns s) (fun x hx => ht x (List.mem_of_mem_take hx)) ?_
    rw [rowOf_n2, hpart _ hk, ← h, rv_rv]

/-- The row of a symbol that comes is read as it. -/
theorem nextF_row {ns : List Nat} {s : Nat} (hm : measure ns ≤ 32768) (h15 : ∀ x, key ns x ≤ 15) (hs : s < ns.length) (h0 : key ns s ≠ 0) (rest : List Nat) (hr : ∀ b ∈ rest, b < 2) : nextF ns (rowOf ns s ++ rest) = (s, key ns s, 0) := by
  have hb : ∀ b ∈ rowOf ns s ++ rest, b < 2 := fun b hb => by
    rcases List.mem_append.1 hb with h | h
    · exact rowOf_bit ns s b h
    · exact hr b h
  have hsr : s ∈ ris ns := mem_ris.2 ⟨hs, h0⟩
  have hf : Fit ns (rowOf ns s ++ rest) s := ⟨h0, List.prefix_append _ _⟩
  refine nextF_of (.inl ⟨rfl, hs, hf, rfl, fun j hj hfj => ?_⟩)
  have hjr : j ∈ ris ns := mem_ris.2 ⟨by omega, hfj.1⟩
  have h1 := ((fitL_iff hm hsr (h15 s) _ hb).1 hf).2
  have h2 := ((fitL_iff hm hjr (h15 j) _ hb).1 hfj).2
  have := fits_one hjr hsr h15 h2 h1
  omega

theorem numAt_laid (A B : List Nat) (v n : Nat) (h : v < 2 ^ n) : numAt (A ++ (bitsOf v n ++ B)) A.length n = v := by
  unfold numAt
  rw [List.drop_left, List.take_append_of_le_length (by rw [bitsOf_length]; exact Nat.le_refl _), List.take_of_length_le (by rw [bitsOf_length]; exact Nat.le_refl _), bitsOf_n2, Nat.mod_eq_of_lt h]

/-- A step's bits. -/
def stepBits (cs : List Nat) (s : Nat × Nat) : List Nat := rowOf cs s.1 ++ bitsOf s.2 (xbits s.1)

theorem stepBits_length (cs : List Nat) (s : Nat × Nat) : (stepBits cs s).length = key cs s.1 + xbits s.1 := by rw [stepBits, List.length_append, rowOf_length, bitsOf_length]

theorem stepBits_bit (cs : List Nat) (s : Nat × Nat) : ∀ b ∈ stepBits cs s, b < 2 := by
  intro b hb
  rcases List.mem_append.1 hb with h | h
  · exact rowOf_bit _ _ b h
  · exact bitsOf_lt _ _ b h

/-- Steps that may be laid by these codes. -/
def StepsOk (cs : List Nat) (ss : List (Nat × Nat)) : Prop := ∀ s ∈ ss, s.1 < cs.length ∧ key cs s.1 ≠ 0 ∧ s.2 < 2 ^ xbits s.1

theorem stepF_laid {cs : List Nat} (hm : measure cs ≤ 32768) (h15 : ∀ x, key cs x ≤ 15) (A B : List Nat) (hB : ∀ b ∈ B, b < 2) (s : Nat × Nat) (h1 : s.1 < cs.length) (h2 : key cs s.1 ≠ 0) (h3 : s.2 < 2 ^ xbits s.1) :
    stepF cs (A ++ (stepBits cs s ++ B)) A.length = .ok (s, A.length + (stepBits cs s).length) := by
  have hn : nextF cs ((A ++ (stepBits cs s ++ B)).drop A.length) = (s.1, key cs s.1, 0) := by
    rw [List.drop_left, stepBits, List.append_assoc]
    refine nextF_row hm h15 h1 h2 _ (fun b hb => ?_)
    rcases List.mem_append.1 hb with h | h
    · exact bitsOf_lt _ _ b h
    · exact hB b h
  have hx : numAt (A ++ (stepBits cs s ++ B)) (A.length + key cs s.1) (xbits s.1) = s.2 := by
    have := numAt_laid (A ++ rowOf cs s.1) B s.2 (xbits s.1) h3
    rw [List.length_append, rowOf_length] at this
    rw [stepBits, List.append_assoc, ← List.append_assoc A]
    exact this
  unfold stepF
  rw [hn]
  simp only
  rw [if_neg (by simp), if_neg (by rw [List.length_append, List.length_append, stepBits_length]; omega), hx, stepBits_length, Nat.add_assoc]

theorem bodyF_laid {cs : List Nat} (hm : measure cs ≤ 32768) (h15 : ∀ x, key cs x ≤ 15) (N : Nat) (B : List Nat) (hB : ∀ b ∈ B, b < 2) (ss : List (Nat × Nat)) (hs : StepsOk cs ss) (A l m : List Nat) (f : Nat) (hl : ∀ x ∈ l, x ≤ 15) (hf : N - l.length ≤ f)
    (hr : runM N l (ss.map (fun s => ((s.1 : Int), (s.2 : Int)))) = some m) (hN : m.length = N) : bodyF cs (A ++ (ss.flatMap (stepBits cs) ++ B)) N f l A.length = .ok (m, A.length + (ss.flatMap (stepBits cs)).length) := by
  induction ss generalizing A l f with
  | nil =>
    simp only [List.map_nil, runM, Option.some.injEq] at hr
    subst hr
    rw [bodyF_end (by omega)]
    simp
  | cons s r ih =>
    have h1 := hs s (by simp)
    simp only [List.map_cons, runM] at hr
    cases hw : withM l ((s.1 : Int), (s.2 : Int)) N with
    | none => rw [hw] at hr; cases hr
    | some l2 =>
      rw [hw] at hr
      simp only at hr
      have hg := withM_grows hw hl
      obtain ⟨f, rfl⟩ : ∃ g, f = g + 1 := ⟨f - 1, by omega⟩
      have hB2 : ∀ b ∈ r.flatMap (stepBits cs) ++ B, b < 2 := fun b hb => by
        rcases List.mem_append.1 hb with h | h
        · obtain ⟨t, _, ht⟩ := List.mem_flatMap.1 h
          exact stepBits_bit cs t b ht
        · exact hB b h
      have hst := stepF_laid hm h15 A (r.flatMap (stepBits cs) ++ B) hB2 s h1.1 h1.2.1 h1.2.2
      rw [List.flatMap_cons, List.append_assoc, bodyF_step (by omega) hst, hw]
      simp only
      have := ih (fun t ht => hs t (List.mem_cons_of_mem _ ht)) (A ++ stepBits cs s) l2 f hg.2.2 (by omega) hr
      rw [List.append_assoc, List.length_append] at this
      rw [this, List.length_append, Nat.add_assoc]

/-- The lengths of the steps' codes, as bits. -/
def codeBits (cs : List Nat) : Nat → List Nat
  | 0 => []
  | i + 1 => codeBits cs i ++ bitsOf (cs.getD (ord.getD i 0) 0) 3

theorem codeBits_length (cs : List Nat) (i : Nat) : (codeBits cs i).length = 3 * i := by
  induction i with
  | zero => rfl
  | succ i ih => rw [codeBits, List.length_append, ih, bitsOf_length]; omega

theorem codeBits_bit (cs : List Nat) (i : Nat) : ∀ b ∈ codeBits cs i, b < 2 := by
  induction i with
  | zero => simp [codeBits]
  | succ i ih =>
    intro b hb
    rcases List.mem_append.1 hb with h | h
    · exact ih b h
    · exact bitsOf_lt _ _ b h

theorem codeBits_split (cs : List Nat) (i n : Nat) (h : i < n) : ∃ r, codeBits cs n = codeBits cs i ++ (bitsOf (cs.getD (ord.getD i 0) 0) 3 ++ r) := by
  induction n with
  | zero => omega
  | succ n ih =>
    by_cases e : i = n
    · subst e; exact ⟨[], by simp [codeBits]⟩
    · obtain ⟨r, hr⟩ := ih (by omega)
      exact ⟨r ++ bitsOf (cs.getD (ord.getD n 0) 0) 3, by rw [codeBits, hr]; simp⟩

theorem ord_all : ∀ p, p < 19 → ∃ j, j < 19 ∧ ord.getD j 0 = p := by decide

theorem codesF_laid (cs : List Nat) (h7 : ∀ x ∈ cs, x ≤ 7) (hl : cs.length = 19) (A B : List Nat) (n : Nat) (hn : n ≤ 19) (i : Nat) (hi : i ≤ n) : ∀ p, p < 19 → (codesF (A ++ (codeBits cs n ++ B)) A.length i).getD p 0 = if (∃ j, j < i ∧ ord.getD j 0 = p) then cs.getD p 0 else 0 := by
  induction i with
  | zero =>
    intro p hp
    rw [if_neg (by rintro ⟨j, hj, _⟩; omega)]
    rw [codesF, List.getD_eq_getElem?_getD, List.getElem?_replicate, if_pos hp]
    rfl
  | succ i ih =>
    intro p hp
    have ih := ih (by omega) p hp
    obtain ⟨r, hr⟩ := codeBits_split cs i n (by omega)
    have ho := ord_le i (by omega)
    have hv : cs.getD (ord.getD i 0) 0 < 2 ^ 3 := by
      have hlt : ord.getD i 0 < cs.length := by omega
      have e : cs.getD (ord.getD i 0) 0 = cs[ord.getD i 0] := by rw [List.getD_eq_getElem?_getD, List.getElem?_eq_getElem hlt]; rfl
      rw [e]
      have := h7 _ (List.getElem_mem hlt)
      omega
    have hnum : numAt (A ++ (codeBits cs n ++ B)) (A.length + 3 * i) 3 = cs.getD (ord.getD i 0) 0 := by
      have := numAt_laid (A ++ codeBits cs i) (r ++ B) _ 3 hv
      rw [List.length_append, codeBits_length] at this
      rw [hr]
      simp only [List.append_assoc] at this ⊢
      exact this
    rw [codesF, hnum]
    have hlen := codesF_length (A ++ (codeBits cs n ++ B)) A.length i
    by_cases e : ord.getD i 0 = p
    · rw [if_pos ⟨i, by omega, e⟩, e]
      rw [List.getD_eq_getElem?_getD, List.getElem?_set_self (by omega)]
      rfl
    · rw [List.getD_eq_getElem?_getD, List.getElem?_set_ne e, ← List.getD_eq_getElem?_getD, ih]
      by_cases h : ∃ j, j < i ∧ ord.getD j 0 = p
      · obtain ⟨j, hj, hp⟩ := h
        rw [if_pos ⟨j, hj, hp⟩, if_pos ⟨j, by omega, hp⟩]
      · rw [if_neg h, if_neg]
        rintro ⟨j, hj, hp⟩
        by_cases e2 : j = i
        · subst e2; exact e hp
        · exact h ⟨j, by omega, hp⟩

/-- What is laid for two lists. -/
structure HeadOk (lit dist : List Nat) (many : Nat) (cs : List Nat) (ss : List (Nat × Nat)) : Prop where
  l1 : 257 ≤ lit.length
  l2 : lit.length ≤ 286
  d1 : 1 ≤ dist.length
  d2 : dist.length ≤ 30
  m1 : 4 ≤ many
  m2 : many ≤ 19
  c19 : cs.length = 19
  c7 : ∀ x ∈ cs, x ≤ 7
  ok : chkN cs = 0
  rest : ∀ j, many ≤ j → j < 19 → cs.getD (ord.getD j 0) 0 = 0
  st : StepsOk cs ss
  run : runM (lit.length + dist.length) [] (ss.map (fun s => ((s.1 : Int), (s.2 : Int)))) = some (lit ++ dist)

def headBits (nl nd many : Nat) (cs : List Nat) (ss : List (Nat × Nat)) : List Nat :=
  bitsOf (nl - 257) 5 ++ (bitsOf (nd - 1) 5 ++ (bitsOf (many - 4) 4 ++ (codeBits cs many ++ ss.flatMap (stepBits cs))))

theorem headBits_bit (nl nd many : Nat) (cs : List Nat) (ss : List (Nat × Nat)) : ∀ b ∈ headBits nl nd many cs ss, b < 2 := by
  intro b hb
  unfold headBits at hb
  rcases List.mem_append.1 hb with h | h
  · exact bitsOf_lt _ _ b h
  · rcases List.mem_append.1 h with h | h
    · exact bitsOf_lt _ _ b h
    · rcases List.mem_append.1 h with h | h
      · exact bitsOf_lt _ _ b h
      · rcases List.mem_append.1 h with h | h
        · exact codeBits_bit _ _ b h
        · obtain ⟨t, _, ht⟩ := List.mem_flatMap.1 h
          exact stepBits_bit cs t b ht

theorem headBits_length (nl nd many : Nat) (cs : List Nat) (ss : List (Nat × Nat)) : (headBits nl nd many cs ss).length = 14 + 3 * many + (ss.flatMap (stepBits cs)).length := by
  unfold headBits
  simp only [List.length_append, bitsOf_length, codeBits_length]
  omega

theorem readF_laid {lit dist : List Nat} {many : Nat} {cs : List Nat} {ss : List (Nat × Nat)} (h : HeadOk lit dist many cs ss) (A B : List Nat) (hB : ∀ b ∈ B, b < 2) :
    readF (A ++ (headBits lit.length dist.length many cs ss ++ B)) A.length = .ok ((lit, dist), (headBits lit.length dist.length many cs ss).length) := by
  have hm : measure cs ≤ 32768 := by
    have := h.ok
    unfold chkN at this
    split at this
    · omega
    · omega
  have h15 : ∀ x, key cs x ≤ 15 := fun x => by
    by_cases e : x < cs.length
    · rw [key_get e]; have := h.c7 _ (List.getElem_mem e); omega
    · simp [key, e]
  have hl1 := h.l1; have hl2 := h.l2; have hd1 := h.d1; have hd2 := h.d2; have hm1 := h.m1; have hm2 := h.m2
  have hlen := headBits_length lit.length dist.length many cs ss
  obtain ⟨T, hT⟩ : ∃ T, T = A ++ (headBits lit.length dist.length many cs ss ++ B) := ⟨_, rfl⟩
  have hTl : T.length = A.length + (14 + 3 * many + (ss.flatMap (stepBits cs)).length) + B.length := by rw [hT, List.length_append, List.length_append, hlen]; omega
  have n1 : numAt T A.length 5 = lit.length - 257 := by
    have := numAt_laid A (bitsOf (dist.length - 1) 5 ++ (bitsOf (many - 4) 4 ++ (codeBits cs many ++ ss.flatMap (stepBits cs))) ++ B) (lit.length - 257) 5 (by omega)
    rw [hT]
    unfold headBits
    simp only [List.append_assoc] at this ⊢
    exact this
  have n2' : numAt T (A.length + 5) 5 = dist.length - 1 := by
    have := numAt_laid (A ++ bitsOf (lit.length - 257) 5) (bitsOf (many - 4) 4 ++ (codeBits cs many ++ ss.flatMap (stepBits cs)) ++ B) (dist.length - 1) 5 (by omega)
    rw [List.length_append, bitsOf_length] at this
    rw [hT]
    unfold headBits
    simp only [List.append_assoc] at this ⊢
    exact this
  have n3 : numAt T (A.length + 10) 4 = many - 4 := by
    have := numAt_laid (A ++ (bitsOf (lit.length - 257) 5 ++ bitsOf (dist.length - 1) 5)) (codeBits cs many ++ ss.flatMap (stepBits cs) ++ B) (many - 4) 4 (by omega)
    rw [List.length_append, List.length_append, bitsOf_length, bitsOf_length] at this
    rw [hT]
    unfold headBits
    simp only [List.append_assoc] at this ⊢
    exact this
  have hcs : codesF T (A.length + 14) many = cs := by
    have hA : (A ++ (bitsOf (lit.length - 257) 5 ++ (bitsOf (dist.length - 1) 5 ++ bitsOf (many - 4) 4))).length = A.length + 14 := by simp [bitsOf_length]
    have := codesF_laid cs h.c7 h.c19 (A ++ (bitsOf (lit.length - 257) 5 ++ (bitsOf (dist.length - 1) 5 ++ bitsOf (many - 4) 4))) (ss.flatMap (stepBits cs) ++ B) many hm2 many (Nat.le_refl _)
    rw [hA] at this
    have eT : A ++ (bitsOf (lit.length - 257) 5 ++ (bitsOf (dist.length - 1) 5 ++ bitsOf (many - 4) 4)) ++ (codeBits cs many ++ (ss.flatMap (stepBits cs) ++ B)) = T := by rw [hT]; unfold headBits; simp only [List.append_assoc]
    rw [eT] at this
    refine List.ext_getElem (by rw [codesF_length, h.c19]) (fun p h1 h2 => ?_)
    rw [codesF_length] at h1
    have hp := this p h1
    have e1 : (codesF T (A.length + 14) many).getD p 0 = (codesF T (A.length + 14) many)[p] := by rw [List.getD_eq_getElem?_getD, List.getElem?_eq_getElem]; rfl
    have e2 : cs.getD p 0 = cs[p] := by rw [List.getD_eq_getElem?_getD, List.getElem?_eq_getElem]; rfl
    rw [e1] at hp
    rw [hp]
    obtain ⟨j, hj, hjp⟩ := ord_all p h1
    by_cases hjm : j < many
    · rw [if_pos ⟨j, hjm, hjp⟩, e2]
    · have hz := h.rest j (by omega) hj
      rw [hjp, e2] at hz
      split
      · exact e2
      · exact hz.symm
  have hbody : bodyF cs T (lit.length + dist.length) (lit.length + dist.length) [] (A.length + 14 + 3 * many) = .ok (lit ++ dist, A.length + 14 + 3 * many + (ss.flatMap (stepBits cs)).length) := by
    have hA : (A ++ (bitsOf (lit.length - 257) 5 ++ (bitsOf (dist.length - 1) 5 ++ (bitsOf (many - 4) 4 ++ codeBits cs many)))).length = A.length + 14 + 3 * many := by simp [bitsOf_length, codeBits_length]; omega
    have := bodyF_laid hm h15 (lit.length + dist.length) B hB ss h.st (A ++ (bitsOf (lit.length - 257) 5 ++ (bitsOf (dist.length - 1) 5 ++ (bitsOf (many - 4) 4 ++ codeBits cs many)))) [] (lit ++ dist) (lit.length + dist.length) (by simp) (by simp) h.run (by simp)
    rw [hA] at this
    have eT : A ++ (bitsOf (lit.length - 257) 5 ++ (bitsOf (dist.length - 1) 5 ++ (bitsOf (many - 4) 4 ++ codeBits cs many))) ++ (ss.flatMap (stepBits cs) ++ B) = T := by rw [hT]; unfold headBits; simp only [List.append_assoc]
    rw [eT] at this
    exact this
  rw [← hT]
  unfold readF
  rw [n1, n2', n3, show many - 4 + 4 = many by omega, show lit.length - 257 + 257 = lit.length by omega, show dist.length - 1 + 1 = dist.length by omega, hcs, hbody, if_neg (by omega), if_neg (by omega), if_neg (by omega), if_neg (by rw [h.ok]; simp)]
  simp only
  rw [List.take_left, List.drop_left, hlen]
  congr 2
  omega

end Go.Proofs.YtofhlnpbflkdlabDoor

/-
  Unpack of Pack; how long a head is.
-/
namespace Go.Proofs.YtofhlnpbflkdlabDoor

theorem withM_mono {l m : List Nat} {s : Int × Int} {n n' : Nat} (h : n' ≤ n) (hw : withM l s n' = some m) : withM l s n = some m := by
  unfold withM at hw ⊢
  split at hw
  · cases hw
  · split at hw
    · cases hw
    · rename_i v k hs _
      rw [if_neg (by omega)]
      exact hw

theorem runM_mono {l m : List Nat} {ss : List (Int × Int)} {n n' : Nat} (h : n' ≤ n) (hr : runM n' l ss = some m) : runM n l ss = some m := by
  induction ss generalizing l with
  | nil => exact hr
  | cons a r ih =>
    simp only [runM] at hr ⊢
    cases hw : withM l a n' with
    | none => rw [hw] at hr; cases hr
    | some k =>
      rw [hw] at hr
      rw [withM_mono h hw]
      exact ih hr

theorem unp_same (l : List Nat) (h15 : ∀ x ∈ l, x ≤ 15) (hn : l.length ≤ 316) : unpM (packM l) (l.length : Int) = .ok l := by
  unfold unpM
  rw [if_neg (by omega), Int.toNat_natCast, runM_pack l.length l [] h15 (by simp)]
  simp

theorem unp_less (l : List Nat) (h15 : ∀ x ∈ l, x ≤ 15) (hn : l.length ≤ 316) (h0 : 0 < l.length) : unpM (packM l) ((l.length : Int) - 1) = .error 41 := by
  unfold unpM
  rw [if_neg (by omega)]
  have e : ((l.length : Int) - 1).toNat = l.length - 1 := by omega
  rw [e]
  cases hr : runM (l.length - 1) [] (packM l) with
  | none => rfl
  | some m =>
    exfalso
    have h1 := runM_mono (n := l.length) (by omega) hr
    rw [runM_pack l.length l [] h15 (by simp)] at h1
    simp only [List.nil_append, Option.some.injEq] at h1
    have h2 := runM_le hr (by simp) (by simp)
    rw [← h1] at h2
    omega

theorem unp_more (l : List Nat) (h15 : ∀ x ∈ l, x ≤ 15) (hn : l.length < 316) : unpM (packM l) ((l.length : Int) + 1) = .error 41 := by
  unfold unpM
  rw [if_neg (by omega)]
  have e : ((l.length : Int) + 1).toNat = l.length + 1 := by omega
  rw [e, runM_pack (l.length + 1) l [] h15 (by simp)]
  simp

theorem unp_far (ss : List (Int × Int)) (n : Int) (h : n < 0 ∨ 316 < n) : unpM ss n = .error 1 := by
  unfold unpM
  rw [if_pos h]

theorem xbits_le (s : Nat) : xbits s ≤ 7 := by
  unfold xbits
  split
  · omega
  · split
    · omega
    · split <;> omega

theorem steps_len (cs : List Nat) (h7 : ∀ x ∈ cs, x ≤ 7) (ss : List (Nat × Nat)) : (ss.flatMap (stepBits cs)).length ≤ 14 * ss.length := by
  induction ss with
  | nil => simp
  | cons s r ih =>
    rw [List.flatMap_cons, List.length_append, stepBits_length, List.length_cons]
    have h1 := xbits_le s.1
    have h2 : key cs s.1 ≤ 7 := by
      by_cases e : s.1 < cs.length
      · rw [key_get e]; exact h7 _ (List.getElem_mem e)
      · simp [key, e]
    omega

theorem head_len {lit dist : List Nat} {many : Nat} {cs : List Nat} {ss : List (Nat × Nat)} (h : HeadOk lit dist many cs ss) (hs : ss.length ≤ lit.length + dist.length) : (headBits lit.length dist.length many cs ss).length ≤ 71 + 14 * (lit.length + dist.length) := by
  rw [headBits_length]
  have h1 := steps_len cs h.c7 ss
  have h2 := h.m2
  omega

/-- Pack's steps in numbers from 0 on, and what they are. -/
def packN (l : List Nat) : List (Nat × Nat) := (packM l).map (fun s => (s.1.toNat, s.2.toNat))

/-- A step that may be. -/
def StepIs (s : Int × Int) : Prop := 0 ≤ s.1 ∧ s.1 ≤ 18 ∧ 0 ≤ s.2 ∧ s.2.toNat < 2 ^ xbits s.1.toNat

theorem zerosM_is (n : Nat) : ∀ s ∈ zerosM n, StepIs s := by
  induction n using Nat.strongRecOn with
  | ind n ih =>
    intro s hs
    by_cases h : 11 ≤ n
    · rw [zerosM_big n h] at hs
      rcases List.mem_cons.1 hs with rfl | hs
      · refine ⟨by simp, by simp, by simp only; omega, ?_⟩
        show (((min n 138 - 11 : Nat) : Int)).toNat < 2 ^ 7
        omega
      · exact ih _ (by omega) s hs
    · by_cases h3 : 3 ≤ n
      · rw [zerosM_mid n (by omega) h3] at hs
        have : s = (17, ((n - 3 : Nat) : Int)) := by simpa using hs
        subst this
        refine ⟨by simp, by simp, by simp only; omega, ?_⟩
        show (((n - 3 : Nat) : Int)).toNat < 2 ^ 3
        omega
      · rw [zerosM_few n (by omega)] at hs
        have := List.eq_of_mem_replicate hs
        subst this
        exact ⟨by simp, by simp, by simp, by decide⟩

theorem againM_is (v n : Nat) (hv : v ≤ 15) : ∀ s ∈ againM v n, StepIs s := by
  induction n using Nat.strongRecOn with
  | ind n ih =>
    intro s hs
    by_cases h : 3 ≤ n
    · rw [againM_big v n h] at hs
      rcases List.mem_cons.1 hs with rfl | hs
      · refine ⟨by simp, by simp, by simp only; omega, ?_⟩
        show (((min n 6 - 3 : Nat) : Int)).toNat < 2 ^ 2
        omega
      · exact ih _ (by omega) s hs
    · rw [againM_few v n (by omega)] at hs
      have := List.eq_of_mem_replicate hs
      subst this
      refine ⟨by simp, by simp only; omega, by simp, ?_⟩
      show (0 : Int).toNat < 2 ^ xbits _
      exact Nat.two_pow_pos _

theorem sayM_is (v n : Nat) (hv : v ≤ 15) : ∀ s ∈ sayM v n, StepIs s := by
  intro s hs
  unfold sayM at hs
  split at hs
  · exact zerosM_is n s hs
  · rcases List.mem_cons.1 hs with rfl | hs
    · refine ⟨by simp, by simp only; omega, by simp, ?_⟩
      show (0 : Int).toNat < 2 ^ xbits _
      exact Nat.two_pow_pos _
    · exact againM_is v _ hv s hs

theorem packM_is (l : List Nat) (h15 : ∀ x ∈ l, x ≤ 15) : ∀ s ∈ packM l, StepIs s := by
  induction hn : l.length using Nat.strongRecOn generalizing l with
  | ind n ih =>
    cases l with
    | nil => intro s hs; simp [packM] at hs
    | cons v r =>
      intro s hs
      rw [packM_cons] at hs
      rcases List.mem_append.1 hs with hs | hs
      · exact sayM_is v _ (h15 v (by simp)) s hs
      · exact ih (r.drop (frontN v r)).length (by simp at hn ⊢; omega) _ (fun x hx => h15 x (List.mem_cons_of_mem _ (List.mem_of_mem_drop hx))) rfl s hs

theorem packN_cast (l : List Nat) (h15 : ∀ x ∈ l, x ≤ 15) : (packN l).map (fun s => ((s.1 : Int), (s.2 : Int))) = packM l := by
  unfold packN
  rw [List.map_map]
  conv => rhs; rw [← List.map_id (packM l)]
  refine List.map_congr_left (fun s hs => ?_)
  have h := packM_is l h15 s hs
  simp only [Function.comp, id]
  rw [Int.toNat_of_nonneg h.1, Int.toNat_of_nonneg h.2.2.1]

theorem packN_length (l : List Nat) : (packN l).length ≤ l.length := by
  unfold packN
  rw [List.length_map]
  exact packM_len l

end Go.Proofs.YtofhlnpbflkdlabDoor

/-
  The program's own way of steps: shapes, what may stand, rows of like lengths.
-/
namespace Go.Proofs.YtofhlnpbflkdlabDoor

/-- How many lengths a step says at least, and how many bits its number has. -/
def leastM (s : Int) : Nat := if s = 16 then 3 else if s = 17 then 3 else if s = 18 then 11 else 1
def widthM (s : Int) : Nat := if s = 16 then 2 else if s = 17 then 3 else if s = 18 then 7 else 0

theorem widthM_nat (s : Nat) : widthM (s : Int) = xbits s := by
  unfold widthM xbits
  by_cases h1 : s = 16
  · subst h1; rfl
  · by_cases h2 : s = 17
    · subst h2; rfl
    · by_cases h3 : s = 18
      · subst h3; rfl
      · rw [if_neg (by omega), if_neg (by omega), if_neg (by omega), if_neg h1, if_neg h2, if_neg h3]

theorem widthM_le (s : Int) : widthM s ≤ 7 := by
  unfold widthM
  split
  · omega
  · split
    · omega
    · split <;> omega

theorem leastM_le (s : Int) : 1 ≤ leastM s ∧ leastM s ≤ 11 := by
  unfold leastM
  split
  · omega
  · split
    · omega
    · split <;> omega

/-- The length that a step says. -/
def sayV (s : Int) (l : List Nat) : Nat := if s = 16 then lastN l else if s = 17 ∨ s = 18 then 0 else s.toNat

/-- Is it a step, and may it stand where so many of n lengths were said? -/
def mayB (s : Int × Int) (said n : Nat) : Prop := 0 ≤ s.1 ∧ s.1 ≤ 18 ∧ 0 ≤ s.2 ∧ s.2 < 2 ^ widthM s.1 ∧ ¬ (s.1 = 16 ∧ said = 0) ∧ (said + leastM s.1 : Nat) + s.2 ≤ n

theorem withM_may {l : List Nat} {s : Int × Int} {n : Nat} (h : mayB s l.length n) : withM l s n = some (l ++ List.replicate (leastM s.1 + s.2.toNat) (sayV s.1 l)) := by
  obtain ⟨a, b⟩ := s
  obtain ⟨h1, h2, h3, h4, h5, h6⟩ := h
  simp only at h1 h2 h3 h4 h5 h6 ⊢
  refine withM_ok ?_ (by omega)
  unfold saysM
  simp only
  by_cases e16 : a = 16
  · subst e16
    have hw : widthM 16 = 2 := rfl
    have hl : leastM 16 = 3 := rfl
    rw [hw] at h4
    rw [if_neg (by omega), if_pos ⟨rfl, h3, by omega, by omega⟩, hl]
    simp only [sayV, if_true]
    congr 2; omega
  · by_cases e17 : a = 17
    · subst e17
      have hw : widthM 17 = 3 := rfl
      have hl : leastM 17 = 3 := rfl
      rw [hw] at h4
      rw [if_neg (by omega), if_neg (by omega), if_pos ⟨rfl, h3, by omega⟩, hl]
      simp [sayV]; omega
    · by_cases e18 : a = 18
      · subst e18
        have hw : widthM 18 = 7 := rfl
        have hl : leastM 18 = 11 := rfl
        rw [hw] at h4
        rw [if_neg (by omega), if_neg (by omega), if_neg (by omega), if_pos ⟨rfl, h3, by omega⟩, hl]
        simp [sayV]; omega
      · have hw : widthM a = 0 := by unfold widthM; rw [if_neg e16, if_neg e17, if_neg e18]
        have hl : leastM a = 1 := by unfold leastM; rw [if_neg e16, if_neg e17, if_neg e18]
        rw [hw] at h4
        have hb : b = 0 := by omega
        subst hb
        rw [if_pos ⟨h1, by omega, rfl⟩, hl]
        unfold sayV
        rw [if_neg e16, if_neg (by omega)]
        rfl

theorem withM_no {l : List Nat} {s : Int × Int} {n : Nat} (h : ¬ mayB s l.length n) : withM l s n = none := by
  cases hw : withM l s n with
  | none => rfl
  | some m =>
    exfalso
    apply h
    obtain ⟨a, b⟩ := s
    unfold withM at hw
    split at hw
    · cases hw
    · rename_i v k hs
      split at hw
      · cases hw
      · rename_i hle
        unfold saysM at hs
        simp only at hs
        unfold mayB
        simp only
        split at hs
        · rename_i h1
          simp at hs
          have hw0 : widthM a = 0 := by unfold widthM; rw [if_neg (by omega), if_neg (by omega), if_neg (by omega)]
          have hl : leastM a = 1 := by unfold leastM; rw [if_neg (by omega), if_neg (by omega), if_neg (by omega)]
          rw [hw0, hl]
          omega
        · split at hs
          · rename_i h1
            simp at hs
            obtain ⟨rfl, h1⟩ := h1
            have hw0 : widthM 16 = 2 := rfl
            have hl : leastM 16 = 3 := rfl
            rw [hw0, hl]
            omega
          · split at hs
            · rename_i h1
              simp at hs
              obtain ⟨rfl, h1⟩ := h1
              have hw0 : widthM 17 = 3 := rfl
              have hl : leastM 17 = 3 := rfl
              rw [hw0, hl]
              omega
            · split at hs
              · rename_i h1
                simp at hs
                obtain ⟨rfl, h1⟩ := h1
                have hw0 : widthM 18 = 7 := rfl
                have hl : leastM 18 = 11 := rfl
                rw [hw0, hl]
                omega
              · cases hs

/-- So many steps of one kind as there are lengths for. -/
def manyL (s : Int) (lo hi n : Nat) : List (Int × Int) :=
  if 1 ≤ lo ∧ lo ≤ hi ∧ lo ≤ n then (s, ((min n hi - lo : Nat) : Int)) :: manyL s lo hi (n - min n hi) else []
termination_by n
decreasing_by omega

/-- And how many lengths are left. -/
def manyR (lo hi n : Nat) : Nat :=
  if 1 ≤ lo ∧ lo ≤ hi ∧ lo ≤ n then manyR lo hi (n - min n hi) else n
termination_by n
decreasing_by omega

theorem manyL_more {s : Int} {lo hi n : Nat} (h1 : 1 ≤ lo) (h2 : lo ≤ hi) (h3 : lo ≤ n) : manyL s lo hi n = (s, ((min n hi - lo : Nat) : Int)) :: manyL s lo hi (n - min n hi) := by
  rw [manyL, if_pos ⟨h1, h2, h3⟩]
theorem manyL_end {s : Int} {lo hi n : Nat} (h3 : n < lo) : manyL s lo hi n = [] := by rw [manyL, if_neg (by omega)]
theorem manyR_more {lo hi n : Nat} (h1 : 1 ≤ lo) (h2 : lo ≤ hi) (h3 : lo ≤ n) : manyR lo hi n = manyR lo hi (n - min n hi) := by
  rw [manyR, if_pos ⟨h1, h2, h3⟩]
theorem manyR_end {lo hi n : Nat} (h3 : n < lo) : manyR lo hi n = n := by rw [manyR, if_neg (by omega)]

theorem many_le (s : Int) (lo hi n : Nat) (h1 : 1 ≤ lo) (h2 : lo ≤ hi) : (manyL s lo hi n).length + manyR lo hi n ≤ n ∧ manyR lo hi n < lo := by
  induction n using Nat.strongRecOn with
  | ind n ih =>
    by_cases h : lo ≤ n
    · have := ih (n - min n hi) (by omega)
      rw [manyL_more h1 h2 h, manyR_more h1 h2 h, List.length_cons]
      omega
    · rw [manyL_end (by omega), manyR_end (by omega)]
      simp; omega

theorem zerosM_many (n : Nat) : zerosM n = manyL 18 11 138 n ++ (manyL 17 3 10 (manyR 11 138 n) ++ List.replicate (manyR 3 10 (manyR 11 138 n)) (0, 0)) := by
  induction n using Nat.strongRecOn with
  | ind n ih =>
    by_cases h : 11 ≤ n
    · rw [zerosM_big n h, manyL_more (by omega) (by omega) h, manyR_more (by omega) (by omega) h, ih (n - min n 138) (by omega)]
      rfl
    · rw [manyL_end (n := n) (by omega), manyR_end (n := n) (by omega)]
      by_cases h3 : 3 ≤ n
      · rw [zerosM_mid n (by omega) h3, manyL_more (by omega) (by omega) h3, manyR_more (by omega) (by omega) h3, show min n 10 = n by omega, Nat.sub_self, manyL_end (by omega), manyR_end (by omega)]
        rfl
      · rw [zerosM_few n (by omega), manyL_end (by omega), manyR_end (by omega)]
        rfl

theorem againM_many (v n : Nat) : againM v n = manyL 16 3 6 n ++ List.replicate (manyR 3 6 n) ((v : Int), 0) := by
  induction n using Nat.strongRecOn with
  | ind n ih =>
    by_cases h : 3 ≤ n
    · rw [againM_big v n h, manyL_more (by omega) (by omega) h, manyR_more (by omega) (by omega) h, ih (n - min n 6) (by omega)]
      rfl
    · rw [againM_few v n (by omega), manyL_end (by omega), manyR_end (by omega)]
      rfl

/-- How many of the codes' lengths come: noughts at the end are left out. -/
def comeN (cs : List Nat) : Nat → Nat
  | 0 => 0
  | k + 1 => if 4 < k + 1 ∧ cs.getD (ord.getD k 0) 0 = 0 then comeN cs k else k + 1

theorem comeN_ge (cs : List Nat) (k : Nat) (h : 4 ≤ k) : 4 ≤ comeN cs k ∧ comeN cs k ≤ k := by
  induction k with
  | zero => omega
  | succ k ih =>
    rw [comeN]
    split
    · have := ih (by omega); omega
    · omega

theorem comeN_rest (cs : List Nat) (k : Nat) : ∀ j, comeN cs k ≤ j → j < k → cs.getD (ord.getD j 0) 0 = 0 := by
  induction k with
  | zero => intro j _ h; omega
  | succ k ih =>
    intro j h1 h2
    rw [comeN] at h1
    split at h1
    · rename_i h
      by_cases e : j = k
      · subst e; exact h.2
      · exact ih j h1 (by omega)
    · omega

end Go.Proofs.YtofhlnpbflkdlabDoor

/-
  The program's within, shape, mayStand, say.
-/
namespace Go.Proofs.YtofhlnpbflkdlabDoor
open Go.RowKit

def inB (n lo hi : Int) : Bool := decide (lo ≤ n) && decide (n ≤ hi)

set_option maxHeartbeats 1000000 in
theorem within_any (w : World) (n lo hi : Int) :
    Calls Tryd.prog 15 #[.int .i64 n, .int .i64 lo, .int .i64 hi] w fun e w' => e = .returned (.bool (inB n lo hi)) ∧ w' = w := by
  go_enter Tryd.func15, Tryd.ntmps15
  by_cases h : lo ≤ n
  · go_wp2_with fail
    go_ret
    exact ⟨by simp only [inB, h, decide_true, Bool.true_and]; rfl, rfl⟩
  · go_wp2_with fail
    go_ret
    have hd : decide (lo ≤ n) = false := by simp; omega
    exact ⟨by simp only [inB, hd, Bool.false_and]; rfl, rfl⟩

set_option maxHeartbeats 1000000 in
theorem shape_any (w : World) (s : Int) :
    Calls Tryd.prog 36 #[.int .i64 s] w fun e w' => e = .returned (.tuple #[.int .i64 (leastM s : Nat), .int .i64 (widthM s : Nat)]) ∧ w' = w := by
  by_cases h16 : s = 16
  · subst h16
    go_enter Tryd.func36, Tryd.ntmps36
    go_wp2_with fail
    go_ret2
    exact ⟨rfl, rfl⟩
  · by_cases h17 : s = 17
    · subst h17
      go_enter Tryd.func36, Tryd.ntmps36
      go_wp2_with fail
      go_ret2
      exact ⟨rfl, rfl⟩
    · by_cases h18 : s = 18
      · subst h18
        go_enter Tryd.func36, Tryd.ntmps36
        go_wp2_with fail
        go_ret2
        exact ⟨rfl, rfl⟩
      · have e16 : (s == 16) = false := by simp; omega
        have e17 : (s == 17) = false := by simp; omega
        have e18 : (s == 18) = false := by simp; omega
        have HE : Hid (leastM s = 1 ∧ widthM s = 0) := hid ⟨by unfold leastM; rw [if_neg h16, if_neg h17, if_neg h18], by unfold widthM; rw [if_neg h16, if_neg h17, if_neg h18]⟩
        clear h16 h17 h18
        go_enter Tryd.func36, Tryd.ntmps36
        go_wp2_with fail
        go_ret2
        exact ⟨by rw [HE.out.1, HE.out.2]; rfl, rfl⟩

theorem pow_le7 (n : Nat) (h : n ≤ 7) : (2 : Nat) ^ n ≤ 128 := by
  have := Nat.pow_le_pow_right (show 0 < 2 by decide) h
  simpa using this

/-- mayStand's answer. -/
def MayR (e : Ending) (s : Int × Int) (said n : Nat) : Prop := ∃ r : Bool, e = .returned (.bool r) ∧ (r = true ↔ mayB s said n)

theorem MayR.no {e : Ending} {s : Int × Int} {said n : Nat} (h : MayR e s said n) (hm : ¬ mayB s said n) : e = .returned (.bool false) := by
  obtain ⟨r, rfl, hr⟩ := h
  cases r with
  | false => rfl
  | true => exact absurd (hr.1 rfl) hm

theorem MayR.yes {e : Ending} {s : Int × Int} {said n : Nat} (h : MayR e s said n) (hm : mayB s said n) : e = .returned (.bool true) := by
  obtain ⟨r, rfl, hr⟩ := h
  rw [hr.2 hm]

set_option maxRecDepth 100000 in
set_option maxHeartbeats 2000000 in
theorem mayStand_any (w : World) (a b : Int) (said n : Nat) (hs : said ≤ 1000000) :
    Calls Tryd.prog 25 #[.agg #[.int .i64 a, .int .i64 b], .int .i64 (said : Nat), .int .i64 (n : Nat)] w fun e w' => MayR e (a, b) said n ∧ Same w w' := by
  have hw7 := widthM_le a
  have hl1 := leastM_le a
  have HSH := shape_any (w.alloc (.cells #[.int .i64 a, .int .i64 b] 35)) a
  obtain ⟨wd, hwd⟩ : ∃ x, x = widthM a := ⟨_, rfl⟩
  obtain ⟨ls, hls⟩ : ∃ x, x = leastM a := ⟨_, rfl⟩
  rw [← hwd] at HSH hw7
  rw [← hls] at HSH hl1
  have HM : Hid (mayB (a, b) said n ↔ (0 ≤ a ∧ a ≤ 18 ∧ 0 ≤ b ∧ b < 2 ^ wd ∧ ¬ (a = 16 ∧ said = 0) ∧ (said + ls : Nat) + b ≤ n)) := hid (by rw [hwd, hls]; exact Iff.rfl)
  clear hwd hls
  have hp7 := pow_le7 wd hw7
  have hp0 : 0 < 2 ^ wd := Nat.two_pow_pos wd
  obtain ⟨pw, hpw⟩ : ∃ x, x = 2 ^ wd := ⟨_, rfl⟩
  obtain ⟨pm, hpm⟩ : ∃ x : Nat, x = pw - 1 := ⟨_, rfl⟩
  rw [← hpw] at hp7 hp0
  have HM2 : Hid (mayB (a, b) said n ↔ (inB a 0 18 = true ∧ inB b 0 (pm : Int) = true ∧ ¬ (a = 16 ∧ said = 0) ∧ (said + ls : Nat) + b ≤ n)) := hid (by
    rw [HM.out]
    have : (2 : Int) ^ wd = (pw : Int) := by rw [hpw]; simp
    rw [this]
    simp only [inB, Bool.and_eq_true, decide_eq_true_eq]
    omega)
  have hshl : wrap64 ((2 : Int) ^ wd) = (pw : Int) := by
    have : (2 : Int) ^ wd = (pw : Int) := by rw [hpw]; simp
    rw [this]; unfold wrap64; omega
  have hsub : (pw : Int) - 1 = (pm : Int) := by omega
  have HW1 := fun q => within_any ((w.alloc (.cells #[.int .i64 a, .int .i64 b] 35)).drewN q) a 0 18
  have HW2 := fun q => within_any ((w.alloc (.cells #[.int .i64 a, .int .i64 b] 35)).drewN q) b 0 (pm : Int)
  clear HM hpw
  have hpm' : pm ≤ 127 := by omega
  clear hpm
  go_enter Tryd.func25, Tryd.ntmps25
  go_wp2_with fail
  refine HSH.mono ?_
  rintro e w1 ⟨rfl, rfl⟩
  clear HSH
  have HK0 : Hid (Same w (w.alloc (.cells #[.int .i64 a, .int .i64 b] 35))) := hid ((Kept.refl _ w).alloc _)
  have cB : (w.alloc (.cells #[.int .i64 a, .int .i64 b] 35)).cell? ⟨w.heap.size, 1, none⟩ = some (.int .i64 b) := by simp
  have cA : (w.alloc (.cells #[.int .i64 a, .int .i64 b] 35)).cell? ⟨w.heap.size, 0, none⟩ = some (.int .i64 a) := by simp
  generalize w.alloc (.cells #[.int .i64 a, .int .i64 b] 35) = W at *
  cases h1 : inB a 0 18 with
  | false =>
    have HE : Hid (¬ mayB (a, b) said n) := hid (fun h => by have := (HM2.out.1 h).1; rw [h1] at this; cases this)
    rw [h1] at HW1
    clear h1
    go_wp2_with fail
    go_quiet ((go_at_call 15; exact Calls.quiet_of_same (HW1 _)))
    go_wp2_with fail
    go_ret
    exact ⟨⟨false, rfl, by simp [HE.out]⟩, HK0.out.drewN _⟩
  | true =>
    rw [h1] at HW1
    cases h2 : inB b 0 (pm : Int) with
    | false =>
      have HE : Hid (¬ mayB (a, b) said n) := hid (fun h => by have := (HM2.out.1 h).2.1; rw [h2] at this; cases this)
      rw [h2] at HW2
      clear h1 h2
      go_wp2_with fail
      go_quiet ((go_at_call 15; first | (with_reducible exact Calls.quiet_of_same (HW1 _)) | (with_reducible exact Calls.quiet_of_same (HW2 _))))
      go_wp2_with fail
      go_ret
      exact ⟨⟨false, rfl, by simp [HE.out]⟩, HK0.out.drewN _⟩
    | true =>
      rw [h2] at HW2
      have hb : 0 ≤ b ∧ b ≤ (pm : Int) := by simpa [inB] using h2
      have HM3 : Hid (mayB (a, b) said n ↔ (¬ (a = 16 ∧ said = 0) ∧ (said + ls : Nat) + b ≤ n)) := hid (by rw [HM2.out, h1, h2]; simp)
      obtain ⟨bn, rfl⟩ : ∃ x : Nat, b = (x : Int) := ⟨b.toNat, by omega⟩
      have hbn : bn ≤ 127 := by omega
      obtain ⟨t, ht⟩ : ∃ t, t = said + ls := ⟨_, rfl⟩
      have htI : (said : Int) + (ls : Int) = (t : Int) := by omega
      have htw : IntKind.i64.wrap (t : Int) = (t : Int) := by rw [IntKind.wrap_i64]; omega
      obtain ⟨u, hu⟩ : ∃ u, u = t + bn := ⟨_, rfl⟩
      have huI : (t : Int) + (bn : Int) = (u : Int) := by omega
      have huw : IntKind.i64.wrap (u : Int) = (u : Int) := by rw [IntKind.wrap_i64]; omega
      have HM4 : Hid (mayB (a, (bn : Int)) said n ↔ (¬ (a = 16 ∧ said = 0) ∧ u ≤ n)) := hid (by
        rw [HM3.out]
        have : ((said + ls : Nat) : Int) + (bn : Int) ≤ (n : Int) ↔ u ≤ n := by omega
        rw [this])
      clear h1 h2 hb HM3 HM2 ht hu
      go_wp2_with fail
      go_quiet ((go_at_call 15; first | (with_reducible exact Calls.quiet_of_same (HW1 _)) | (with_reducible exact Calls.quiet_of_same (HW2 _))))
      by_cases h16 : a = 16
      · subst h16
        by_cases h0 : said = 0
        · have HE : Hid (¬ mayB (16, (bn : Int)) 0 n) := hid (fun h => (HM4.out.1 (by rw [h0]; exact h)).1 ⟨rfl, h0⟩)
          have hsd : ((said : Int) == 0) = true := by simp [h0]
          go_wp2_with fail
          go_ret
          exact ⟨⟨false, rfl, by simp [HE.out]⟩, HK0.out.drewN _⟩
        · have hsd : ((said : Int) == 0) = false := by simp [h0]
          have HE : Hid (mayB (16, (bn : Int)) said n ↔ u ≤ n) := hid (by rw [HM4.out]; simp [h0])
          clear h0
          go_wp2_with fail
          go_ret
          exact ⟨⟨_, rfl, by rw [HE.out]; simp⟩, HK0.out.drewN _⟩
      · have h16' : (a == 16) = false := by simp [h16]
        have HE : Hid (mayB (a, (bn : Int)) said n ↔ u ≤ n) := hid (by rw [HM4.out]; simp [h16])
        clear h16
        go_wp2_with fail
        go_ret
        exact ⟨⟨_, rfl, by rw [HE.out]; simp⟩, HK0.out.drewN _⟩


set_option maxRecDepth 100000 in
set_option maxHeartbeats 2000000 in
/-- say, behind a row of one's own. -/
theorem say_any (w : World) (B : Nat) (v : Value) (l : List Nat) (a b : Int) (n : Nat) (hr : NRow B w v l) (hB : B ≤ w.heap.size) (hl : l.length ≤ 1000000) (hm : mayB (a, b) l.length n) :
    Calls Tryd.prog 26 #[v, .agg #[.int .i64 a, .int .i64 b]] w fun e w' => ∃ v', e = .returned v' ∧ NRow B w' v' (l ++ List.replicate (leastM a + b.toNat) (sayV a l)) ∧ Kept (Over B) w w' := by
  obtain ⟨ao, cap, rfl, hao, _⟩ := hr.shape
  obtain ⟨h1, h2, h3, h4, h5, h6⟩ := hm
  simp only at h1 h2 h3 h4 h5 h6
  have hw7 := widthM_le a
  have hl1 := leastM_le a
  have hp7 := pow_le7 _ hw7
  have hb7 : b < 128 := by
    have : ((2 ^ widthM a : Nat) : Int) = 2 ^ widthM a := by simp
    omega
  obtain ⟨bn, rfl⟩ : ∃ x : Nat, b = (x : Int) := ⟨b.toNat, by omega⟩
  obtain ⟨an, rfl⟩ : ∃ x : Nat, a = (x : Int) := ⟨a.toNat, by omega⟩
  obtain ⟨ls, hls⟩ : ∃ x, x = leastM (an : Int) := ⟨_, rfl⟩
  have HSH := shape_any (w.alloc (.cells #[.int .i64 (an : Int), .int .i64 (bn : Int)] 35)) (an : Int)
  rw [← hls] at HSH hl1 ⊢
  rw [Int.toNat_natCast]
  obtain ⟨k, hk⟩ : ∃ k, k = ls + bn := ⟨_, rfl⟩
  have hkI : (ls : Int) + (bn : Int) = (k : Int) := by omega
  have hkw : IntKind.i64.wrap (k : Int) = (k : Int) := by rw [IntKind.wrap_i64]; omega
  rw [← hk]
  have hk138 : k ≤ 138 := by omega
  obtain ⟨x, hx⟩ : ∃ x, x = sayV (an : Int) l := ⟨_, rfl⟩
  rw [← hx]
  have HR : Hid (NRow B (w.alloc (.cells #[.int .i64 (an : Int), .int .i64 (bn : Int)] 35)) (.slice ao l.length cap) l) := hid (World.ownsRow.alloc hr _)
  have HK0 : Hid (Kept (Over B) w (w.alloc (.cells #[.int .i64 (an : Int), .int .i64 (bn : Int)] 35))) := hid ((Kept.refl _ w).alloc _)
  have cB : (w.alloc (.cells #[.int .i64 (an : Int), .int .i64 (bn : Int)] 35)).cell? ⟨w.heap.size, 1, none⟩ = some (.int .i64 (bn : Int)) := by simp
  have cA : (w.alloc (.cells #[.int .i64 (an : Int), .int .i64 (bn : Int)] 35)).cell? ⟨w.heap.size, 0, none⟩ = some (.int .i64 (an : Int)) := by simp
  have hsz : B ≤ (w.alloc (.cells #[.int .i64 (an : Int), .int .i64 (bn : Int)] 35)).heap.size := by simp; omega
  have HLOOP : ∀ W : World, W = w.alloc (.cells #[.int .i64 (an : Int), .int .i64 (bn : Int)] 35) → True := fun _ _ => trivial
  clear HLOOP
  obtain ⟨L, hL⟩ : ∃ L, L = l.length := ⟨_, rfl⟩
  have HL : Hid (L = l.length) := hL
  have HAO : Hid (l ≠ [] → ∃ g, ao = some ⟨g, 0, none⟩) := hao
  have H5 : Hid (¬ ((an : Int) = 16 ∧ l.length = 0)) := h5
  have HX : Hid (x = sayV (an : Int) l) := hx
  rw [← hL] at HR hl ⊢
  clear hr hls hk hx hL h3 h4 h5 h6 hw7 hp7 hb7 hao h1
  go_enter Tryd.func26, Tryd.ntmps26
  go_wp2_with fail
  refine HSH.mono ?_
  rintro e w1 ⟨rfl, hw1⟩
  subst hw1
  clear HSH
  generalize w.alloc (.cells #[.int .i64 (an : Int), .int .i64 (bn : Int)] 35) = W at *
  by_cases h16 : an = 16
  · subst h16
    have hL0 : 0 < L := by have := HL.out; have := H5.out; omega
    have hl0 : 0 < l.length := by have := HL.out; omega
    obtain ⟨b2, o2, cap2, e2, _, _, c2⟩ := (SrcE.ofRow HR.out).get (l.length - 1) (by omega)
    simp only [Value.slice.injEq] at e2
    obtain ⟨rfl, hxe, rfl⟩ := e2
    clear hxe
    have hle : l[l.length - 1] = x := by rw [HX.out]; simp [sayV, lastN, List.getD, show l.length - 1 < l.length by omega]
    rw [hle, ← HL.out] at c2
    unfold natV at c2
    obtain ⟨m, hm⟩ : ∃ m, m = L - 1 := ⟨_, rfl⟩
    rw [← hm] at c2
    have hmI : (L : Int) - 1 = (m : Int) := by omega
    have hmL : m < L := by omega
    have hwm : IntKind.i64.wrap (m : Int) = (m : Int) := by rw [IntKind.wrap_i64]; omega
    clear hm hle hl0 hL0
    go_wp2_with fail
    go_loopg [0, 32] k (fun q zv zi wr => ∃ (i : Nat), k - i ≤ q ∧ i ≤ k ∧ zi = .int .i64 (i : Nat) ∧ Hid (NRow B wr zv (l ++ List.replicate i x)) ∧ Hid (Kept (Over B) w wr))
    case atStart => exact ⟨0, by omega, by omega, rfl, hid (by simpa using HR.out), HK0⟩
    case round =>
      clear HR HK0 cA cB
      obtain ⟨i, hq, hi, rfl, HV, HK⟩ := hrel
      by_cases hlt : i < k
      · have hsz2 := HK.out.size
        have HLN : Hid ((l ++ List.replicate i x).length + [x].length ≤ 1000000000) := hid (by have := HL.out; simp; omega)
        go_wp2_with (at_builtin; refine wpList_append_e _ natV natV_one B 22 3 (natV 0) 8 Tryd.underlying22 Tryd.infoN rfl (by decide) rfl (.tmp 34) (.tmp 36) rfl u0 (l ++ List.replicate i x) rfl (World.ownsRow.alloc HV.out _) ⟨wr.heap.size, 0, none⟩ 1 1 [x] rfl rfl (cellsAt_new _ _ _) HLN.out (by simp; omega) ?_; intro v5 w5 hr5 hg5)
        have HV5 : Hid (NRow B w5 v5 (l ++ List.replicate (i + 1) x)) := hid (by rw [List.replicate_succ', ← List.append_assoc]; exact hr5)
        have HK5 : Hid (Kept (Over B) w w5) := hid ((HK.out.alloc _).grown hg5 (fun j e => .inl (HV.out.ge e)))
        clear hr5 hg5
        go_wp2_with fail
        go_roundg (gk - 1)
        case measure => omega
        case rel => exact ⟨i + 1, by omega, by omega, by go_num, HV5, HK5⟩
      · have hik : i = k := by omega
        subst hik
        go_wp2_with fail
        go_ret
        exact ⟨_, rfl, HV.out, HK.out⟩
  · have e16 : ((an : Int) == 16) = false := by simp; omega
    by_cases h17 : an = 17
    · subst h17
      have hx0 : x = 0 := by rw [HX.out]; simp [sayV]
      subst hx0
      go_wp2_with fail
      go_loopg [0, 32] k (fun q zv zi wr => ∃ (i : Nat), k - i ≤ q ∧ i ≤ k ∧ zi = .int .i64 (i : Nat) ∧ Hid (NRow B wr zv (l ++ List.replicate i 0)) ∧ Hid (Kept (Over B) w wr))
      case atStart => exact ⟨0, by omega, by omega, rfl, hid (by simpa using HR.out), HK0⟩
      case round =>
        clear HR HK0 cA cB
        obtain ⟨i, hq, hi, rfl, HV, HK⟩ := hrel
        by_cases hlt : i < k
        · have hsz2 := HK.out.size
          have HLN : Hid ((l ++ List.replicate i 0).length + [0].length ≤ 1000000000) := hid (by have := HL.out; simp; omega)
          go_wp2_with (at_builtin; refine wpList_append_e _ natV natV_one B 22 3 (natV 0) 8 Tryd.underlying22 Tryd.infoN rfl (by decide) rfl (.tmp 34) (.tmp 36) rfl u0 (l ++ List.replicate i 0) rfl (World.ownsRow.alloc HV.out _) ⟨wr.heap.size, 0, none⟩ 1 1 [0] rfl rfl (cellsAt_new _ _ _) HLN.out (by simp; omega) ?_; intro v5 w5 hr5 hg5)
          have HV5 : Hid (NRow B w5 v5 (l ++ List.replicate (i + 1) 0)) := hid (by rw [List.replicate_succ', ← List.append_assoc]; exact hr5)
          have HK5 : Hid (Kept (Over B) w w5) := hid ((HK.out.alloc _).grown hg5 (fun j e => .inl (HV.out.ge e)))
          clear hr5 hg5
          go_wp2_with fail
          go_roundg (gk - 1)
          case measure => omega
          case rel => exact ⟨i + 1, by omega, by omega, by go_num, HV5, HK5⟩
        · have hik : i = k := by omega
          subst hik
          go_wp2_with fail
          go_ret
          exact ⟨_, rfl, HV.out, HK.out⟩
    · have e17 : ((an : Int) == 17) = false := by simp; omega
      by_cases h18 : an = 18
      · subst h18
        have hx0 : x = 0 := by rw [HX.out]; simp [sayV]
        subst hx0
        go_wp2_with fail
        go_loopg [0, 32] k (fun q zv zi wr => ∃ (i : Nat), k - i ≤ q ∧ i ≤ k ∧ zi = .int .i64 (i : Nat) ∧ Hid (NRow B wr zv (l ++ List.replicate i 0)) ∧ Hid (Kept (Over B) w wr))
        case atStart => exact ⟨0, by omega, by omega, rfl, hid (by simpa using HR.out), HK0⟩
        case round =>
          clear HR HK0 cA cB
          obtain ⟨i, hq, hi, rfl, HV, HK⟩ := hrel
          by_cases hlt : i < k
          · have hsz2 := HK.out.size
            have HLN : Hid ((l ++ List.replicate i 0).length + [0].length ≤ 1000000000) := hid (by have := HL.out; simp; omega)
            go_wp2_with (at_builtin; refine wpList_append_e _ natV natV_one B 22 3 (natV 0) 8 Tryd.underlying22 Tryd.infoN rfl (by decide) rfl (.tmp 34) (.tmp 36) rfl u0 (l ++ List.replicate i 0) rfl (World.ownsRow.alloc HV.out _) ⟨wr.heap.size, 0, none⟩ 1 1 [0] rfl rfl (cellsAt_new _ _ _) HLN.out (by simp; omega) ?_; intro v5 w5 hr5 hg5)
            have HV5 : Hid (NRow B w5 v5 (l ++ List.replicate (i + 1) 0)) := hid (by rw [List.replicate_succ', ← List.append_assoc]; exact hr5)
            have HK5 : Hid (Kept (Over B) w w5) := hid ((HK.out.alloc _).grown hg5 (fun j e => .inl (HV.out.ge e)))
            clear hr5 hg5
            go_wp2_with fail
            go_roundg (gk - 1)
            case measure => omega
            case rel => exact ⟨i + 1, by omega, by omega, by go_num, HV5, HK5⟩
          · have hik : i = k := by omega
            subst hik
            go_wp2_with fail
            go_ret
            exact ⟨_, rfl, HV.out, HK.out⟩
      · have e18 : ((an : Int) == 18) = false := by simp; omega
        have hx0 : x = an := by rw [HX.out]; unfold sayV; rw [if_neg (by omega), if_neg (by omega)]; simp
        clear h16 h17 h18
        subst hx0
        go_wp2_with fail
        go_loopg [0, 32] k (fun q zv zi wr => ∃ (i : Nat), k - i ≤ q ∧ i ≤ k ∧ zi = .int .i64 (i : Nat) ∧ Hid (NRow B wr zv (l ++ List.replicate i x)) ∧ Hid (Kept (Over B) w wr))
        case atStart => exact ⟨0, by omega, by omega, rfl, hid (by simpa using HR.out), HK0⟩
        case round =>
          clear HR HK0 cA cB
          obtain ⟨i, hq, hi, rfl, HV, HK⟩ := hrel
          by_cases hlt : i < k
          · have hsz2 := HK.out.size
            have HLN : Hid ((l ++ List.replicate i x).length + [x].length ≤ 1000000000) := hid (by have := HL.out; simp; omega)
            go_wp2_with (at_builtin; refine wpList_append_e _ natV natV_one B 22 3 (natV 0) 8 Tryd.underlying22 Tryd.infoN rfl (by decide) rfl (.tmp 34) (.tmp 36) rfl u0 (l ++ List.replicate i x) rfl (World.ownsRow.alloc HV.out _) ⟨wr.heap.size, 0, none⟩ 1 1 [x] rfl rfl (cellsAt_new _ _ _) HLN.out (by simp; omega) ?_; intro v5 w5 hr5 hg5)
            have HV5 : Hid (NRow B w5 v5 (l ++ List.replicate (i + 1) x)) := hid (by rw [List.replicate_succ', ← List.append_assoc]; exact hr5)
            have HK5 : Hid (Kept (Over B) w w5) := hid ((HK.out.alloc _).grown hg5 (fun j e => .inl (HV.out.ge e)))
            clear hr5 hg5
            go_wp2_with fail
            go_roundg (gk - 1)
            case measure => omega
            case rel => exact ⟨i + 1, by omega, by omega, by go_num, HV5, HK5⟩
          · have hik : i = k := by omega
            subst hik
            go_wp2_with fail
            go_ret
            exact ⟨_, rfl, HV.out, HK.out⟩

end Go.Proofs.YtofhlnpbflkdlabDoor

/-
  Rows of some cells an element: made, copied into.
-/
namespace Go.Proofs.YtofhlnpbflkdlabDoor
open Go.RowKit

theorem flat_made {α : Type} {enc : α → List Value} {k : Nat} (ok : EncOk enc k) (x0 : α) (n : Nat) : (madeCells (enc x0).toArray (n * k)).toList = (List.replicate n x0).flatMap enc := by
  have hk := ok.pos
  have hl := ok.len x0
  refine List.ext_getElem? (fun i => ?_)
  by_cases hi : i < n * k
  · have h1 : i / k < n := (Nat.div_lt_iff_lt_mul hk).2 hi
    have h2 : i % k < k := Nat.mod_lt _ hk
    have h3 := flat_get ok (List.replicate n x0) (i / k) (i % k) (by simpa using h1) h2
    rw [List.getElem_replicate, Nat.div_add_mod' i k] at h3
    rw [h3]
    simp [madeCells, hi, hl, h2]
  · rw [List.getElem?_eq_none (by simp [madeCells]; omega), List.getElem?_eq_none (by rw [flat_length ok]; simp; omega)]

/-- A whole block. -/
def Raw (w : World) (g : Nat) (t : TypeId) (L : List Value) : Prop := w.heap[g]? = some (.cells L.toArray t (0, 0))

theorem RowC.raw {α : Type} {B t k : Nat} {enc : α → List Value} {w : World} {g n : Nat} {xs : List α} (h : RowC B t k enc w (.slice (some ⟨g, 0, none⟩) n n) xs) : Raw w g t (xs.flatMap enc) := by
  have hl := h.len
  rcases h.2 with ⟨e, _⟩ | ⟨g', cap, cur, e, _, hg, _, _, hcs, htake⟩
  · simp at e
  · simp only [Value.slice.injEq, Option.some.injEq, Addr.mk.injEq, and_true] at e
    obtain ⟨rfl, rfl, rfl⟩ := e
    have : cur.toList = xs.flatMap enc := by
      rw [← htake, List.take_of_length_le]
      have h2 : cur.toList.length = cur.size := by simp
      rw [h2, hcs, hl]
      exact Nat.le_refl _
    unfold Raw
    rw [hg, ← this]

theorem Raw.row {α : Type} {B t k : Nat} {enc : α → List Value} (ok : EncOk enc k) {w : World} {g : Nat} {xs : List α} (h : Raw w g t (xs.flatMap enc)) (hB : B ≤ g) (hm : xs.length ≤ maxLen) : RowC B t k enc w (.slice (some ⟨g, 0, none⟩) xs.length xs.length) xs := by
  have hl := flat_length ok xs
  refine ⟨hl, .inr ⟨g, xs.length, _, rfl, hB, h, Nat.le_refl _, hm, ?_, ?_⟩⟩
  · simp [hl]
  · rw [List.take_of_length_le (by simp [hl])]

theorem Raw.kept {F : Nat → Prop} {w w' : World} {g : Nat} {t : TypeId} {L : List Value} (h : Raw w g t L) (hk : Kept F w w') (hF : ¬ F g) : Raw w' g t L := by
  unfold Raw
  rw [hk.block g (Array.getElem?_eq_some_iff.1 h).1 hF]
  exact h

/-- make(S, n). -/
theorem wpList_make_c {α : Type} {ops : Array Oper} {rest : List Oper} {o : Oper} {a : Act} {Q : Exit → Act → World → Prop} (w : World) (enc : α → List Value) (k : Nat) (ok : EncOk enc k) (x0 : α) (B sT eT : Nat) (z : Value) (bytes : Nat)
    (hU : Tryd.prog.underlying sT = some (.slice eT)) (hI : (Tryd.prog.info? eT).map (fun i => (i.zero, i.size, i.bytes)) = some (some z, k, bytes)) (hz : z.cells = (enc x0).toArray) (hby : bytes ≤ 1000)
    (hg : o.guard = none) (l c : Operand) (hop : o.op = Op.makeSlice sT l c) (kl kc : IntKind) (L C : Int) (n : Nat)
    (hl : a.eval l = .int kl L) (hc : a.eval c = .int kc C) (hL : L = (n : Int)) (hC : C = (n : Int)) (hn : n ≤ 1000000000) (hB : B ≤ w.heap.size)
    (hK : ∀ w', RowC B eT k enc w' (.slice (some ⟨w.heap.size, 0, none⟩) n n) (List.replicate n x0) → w.grownBy w' none → w.heap.size < w'.heap.size → wpList Tryd.prog ops Q rest (a.put o.dst (.slice (some ⟨w.heap.size, 0, none⟩) n n)) w') : wpList Tryd.prog ops Q (o :: rest) a w := by
  obtain ⟨i0, hi, hz0, hz1, hz2⟩ := info_parts hI
  have hmul : n * bytes ≤ 1000000000 * 1000 := Nat.mul_le_mul hn hby
  refine wpList_make_full w hg l c sT hop B eT i0 z k hU hi hz0 hz1 kl kc L C n hl hc hL hC (by rw [hz2]; have := Nat.mul_comm n bytes; omega) (by simp only [maxLen]; omega) hB ?_
  intro w' h1 h2
  refine hK w' ?_ h2 (World.ownsRow.lt h1 w.heap.size rfl).2
  rw [hz, flat_made ok] at h1
  unfold RowC
  rw [List.length_replicate]
  exact h1

theorem run_copy_k {P : Program} (w : World) (dT sT ty elem : TypeId) (k g off dLen dCap : Nat) (ad : Addr) (sLen sCap : Nat) (cur : List Value) (t : TypeId) (cs : List Value)
    (hu : P.underlying dT = some (.slice elem)) (hs : (P.info? elem).map (·.size) = some k) (hg : Raw w g t cur) (hn : cs.length = Nat.min sLen dLen * k)
    (hsrc : CellsAt w ad cs) (hfit : off + cs.length ≤ cur.length) (h1 : ∀ v ∈ cs, v.oneCell' = true) :
    (Builtin.copy_ #[dT, sT] ty #[.slice (some ⟨g, off, none⟩) dLen dCap, .slice (some ad) sLen sCap]).run P w =
      .ok (goInt (Nat.min sLen dLen)) (w.setRow g (splice cur off cs).toArray) := by
  have hl := run_loadCells_list (P := P) w ad cs hsrc
  have hst := run_storeCells_at P g off t cs 0 cur.toArray w hg (by simpa using hfit) h1
  rw [hn] at hl
  cases hq : P.info? elem with
  | none => simp [hq] at hs
  | some i =>
    have hi : i.size = k := by simpa [hq] using hs
    simp [Builtin.copy_, run_underlying hu, Builtin.lenOf, Builtin.firstCells, sizeOf, typeInfo, hq, hi, hl, hst, splice]

theorem run_copy_none_k {P : Program} (w : World) (dT sT ty elem : TypeId) (k : Nat) (d s : Option Addr) (dLen dCap sLen sCap : Nat)
    (hu : P.underlying dT = some (.slice elem)) (hs : (P.info? elem).map (·.size) = some k) (hn : Nat.min sLen dLen = 0) :
    (Builtin.copy_ #[dT, sT] ty #[.slice d dLen dCap, .slice s sLen sCap]).run P w = .ok (goInt 0) w := by
  cases hq : P.info? elem with
  | none => simp [hq] at hs
  | some i =>
    have hl : ∀ (x : Addr), (loadCells x 0).run P w = .ok #[] w := fun x => by simpa using run_loadCells_list (P := P) w x [] (by simp)
    cases d <;> cases s <;> simp [Builtin.copy_, run_underlying hu, Builtin.lenOf, Builtin.firstCells, sizeOf, typeInfo, hq, hn, storeCells, hl]

theorem splice_nil {α : Type} (L : List α) (off : Nat) : splice L off [] = L := by simp [splice]

theorem grown_setRow (w : World) (g : Nat) (cs : Array Value) : w.grownBy (w.setRow g cs) (some g) :=
  ⟨rfl, rfl, rfl, by simp, fun k _ hk => setRow_other w g k _ (fun e => hk (by simp [e]))⟩

/-- copy as a step of a walk. -/
theorem wpList_copy_k {ops : Array Oper} {rest : List Oper} {o : Oper} {a : Act} {Q : Exit → Act → World → Prop} (w : World) (hgd : o.guard = none) (d s : Operand) (dT sT : TypeId)
    (ho : o.op = .call { callee := .builtin .copy, args := #[d, s], argTypes := #[dT, sT] }) (elem : TypeId) (k : Nat) (hu : Tryd.prog.underlying dT = some (.slice elem)) (hsz : (Tryd.prog.info? elem).map (·.size) = some k)
    (g off dLen dCap : Nat) (sp : Option Addr) (sLen sCap : Nat) (hd : a.eval d = .slice (some ⟨g, off, none⟩) dLen dCap) (hs : a.eval s = .slice sp sLen sCap)
    (cur : List Value) (t : TypeId) (hg : Raw w g t cur) (cs : List Value) (hn : cs.length = Nat.min sLen dLen * k) (hpos : 0 < cs.length → ∃ ad, sp = some ad ∧ CellsAt w ad cs) (hk : 0 < k)
    (hfit : off + cs.length ≤ cur.length) (h1 : ∀ v ∈ cs, v.oneCell' = true) (m : Nat) (hm : Nat.min sLen dLen = m)
    (h : ∀ w', Raw w' g t (splice cur off cs) → w.grownBy w' (some g) → wpList Tryd.prog ops Q rest (a.put o.dst (.int .i64 (m : Nat))) w') : wpList Tryd.prog ops Q (o :: rest) a w := by
  refine wpList_plain hgd fun K hK => ?_
  by_cases h0 : cs = []
  · subst h0
    have hm0 : Nat.min sLen dLen = 0 := by
      rcases Nat.eq_zero_or_pos (Nat.min sLen dLen) with h | h
      · exact h
      · have := Nat.mul_pos h hk; simp at hn; omega
    have hrun := run_copy_none_k (P := Tryd.prog) w dT sT o.type elem k (some ⟨g, off, none⟩) sp dLen dCap sLen sCap hu hsz hm0
    have hmz : m = 0 := by omega
    subst hmz
    rw [splice_nil] at h
    unfold Oper.wp
    simp [execOp, ho, resolve, invoke, builtin, hd, hs, hrun, Result.andThen]
    exact hK _ _ (h w hg (World.grownBy.refl _ _))
  · obtain ⟨ad, rfl, hsrc⟩ := hpos (List.length_pos_iff.2 h0)
    have hrun := run_copy_k (P := Tryd.prog) w dT sT o.type elem k g off dLen dCap ad sLen sCap cur t cs hu hsz hg hn hsrc hfit h1
    rw [hm] at hrun
    unfold Oper.wp
    simp [execOp, ho, resolve, invoke, builtin, hd, hs, hrun, Result.andThen]
    exact hK _ _ (h _ (setRow_heap w g _ _ t _ hg) (grown_setRow w g _))

/-- copy as a step of a region that draws its order. -/
theorem step_copy_k {ops : Array Oper} {o : Oper} {a : Act} {w : World} {K : Act → World → Prop} {Q : Exit → Act → World → Prop} {E : Prop} (hgd : o.guard = none) (d s : Operand) (dT sT : TypeId)
    (ho : o.op = .call { callee := .builtin .copy, args := #[d, s], argTypes := #[dT, sT] }) (elem : TypeId) (k : Nat) (hu : Tryd.prog.underlying dT = some (.slice elem)) (hsz : (Tryd.prog.info? elem).map (·.size) = some k)
    (g off dLen dCap : Nat) (ad : Addr) (sLen sCap : Nat) (hd : a.eval d = .slice (some ⟨g, off, none⟩) dLen dCap) (hs : a.eval s = .slice (some ad) sLen sCap)
    (cur : List Value) (t : TypeId) (hg : Raw w g t cur) (cs : List Value) (hn : cs.length = Nat.min sLen dLen * k) (hsrc : CellsAt w ad cs)
    (hfit : off + cs.length ≤ cur.length) (h1 : ∀ v ∈ cs, v.oneCell' = true) (m : Nat) (hm : Nat.min sLen dLen = m)
    (h : ∀ w', Raw w' g t (splice cur off cs) → w.grownBy w' (some g) → K (a.put o.dst (.int .i64 (m : Nat))) w') :
    if Region.wanted o (yielded ops a.tmps) = true then Oper.wp Tryd.prog o a w K Q else E := by
  have hw : Region.wanted o (yielded ops a.tmps) = true := by simp [Region.wanted, hgd]
  rw [if_pos hw]
  have hrun := run_copy_k (P := Tryd.prog) w dT sT o.type elem k g off dLen dCap ad sLen sCap cur t cs hu hsz hg hn hsrc hfit h1
  rw [hm] at hrun
  unfold Oper.wp
  simp [execOp, ho, resolve, invoke, builtin, hd, hs, hrun, Result.andThen]
  exact h _ (setRow_heap w g _ _ t _ hg) (grown_setRow w g _)

/-- Cells of a block that is known whole. -/
theorem Raw.at {w : World} {g : Nat} {t : TypeId} {L : List Value} (h : Raw w g t L) (n : Nat) : CellsAt w ⟨g, 0, none⟩ (L.take n) := by
  intro j u hu
  have hj : j < (L.take n).length := (List.getElem?_eq_some_iff.1 hu).1
  rw [List.length_take] at hj
  rw [List.getElem?_take_of_lt (by omega)] at hu
  have e : (⟨g, 0, none⟩ : Addr).add j = ⟨g, j, none⟩ := by unfold Addr.add; split <;> simp_all
  rw [e]
  unfold Raw at h
  simp [World.cell?, h, hu]

/-- append as a step of a region that draws its order. -/
theorem step_append_c {α : Type} {ops : Array Oper} {o : Oper} {a : Act} {w : World} {K : Act → World → Prop} {Q : Exit → Act → World → Prop} {E : Prop} (enc : α → List Value) (k : Nat) (ok : EncOk enc k) (B sT eT : Nat) (z : Value) (bytes : Nat)
    (hU : Tryd.prog.underlying sT = some (.slice eT)) (hI : (Tryd.prog.info? eT).map (fun i => (i.zero, i.size, i.bytes)) = some (some z, k, bytes)) (hz : z.cells.size = k) (hby : bytes ≤ 1000) (hgd : o.guard = none) (s x : Operand)
    (ho : o.op = .call { callee := .builtin .append, args := #[s, x], argTypes := #[sT, sT] })
    (v : Value) (xs : List α) (hs : a.eval s = v) (hrow : RowC B eT k enc w v xs) (ad : Addr) (m c : Nat) (cs : List α) (hx : a.eval x = .slice (some ad) m c) (hm : cs.length = m) (hcs : CellsAt w ad (cs.flatMap enc)) (hlen : xs.length + cs.length ≤ 1000000000) (hB : B ≤ w.heap.size)
    (h : ∀ v' w', RowC B eT k enc w' v' (xs ++ cs) → w.grownBy w' v.ownBlock → K (a.put o.dst v') w') : if Region.wanted o (yielded ops a.tmps) = true then Oper.wp Tryd.prog o a w K Q else E := by
  have hw : Region.wanted o (yielded ops a.tmps) = true := by simp [Region.wanted, hgd]
  rw [if_pos hw]
  subst hm
  obtain ⟨i0, hi, hz0, hz1, hz2⟩ := info_parts hI
  have hmul : (xs.length + cs.length) * bytes ≤ 1000000000 * 1000 := Nat.mul_le_mul hlen hby
  refine wp_append_own w s x sT ho B eT i0 z k bytes hU hi hz0 hz1 hz2 hz ok.pos v xs.length (xs.flatMap enc) hs hrow ad cs.length c (cs.flatMap enc) hx (flat_length ok cs) hcs (flat_one ok cs) (by simp only [maxLen]; omega) (by omega) hB ?_
  intro v' w' h1 h2 _
  refine h v' w' ?_ h2
  unfold RowC
  rw [List.length_append, List.flatMap_append]
  exact h1

end Go.Proofs.YtofhlnpbflkdlabDoor

/-
  slices.Repeat of one element.
-/
namespace Go.Proofs.YtofhlnpbflkdlabDoor
open Go.RowKit

set_option maxHeartbeats 1000000 in
theorem mul64_one (w : World) (n : Nat) (hn : n ≤ 1000000) :
    Calls Tryd.prog 64 #[.int .u64 1, .int .u64 (n : Nat)] w fun e w' => e = .returned (.tuple #[.int .u64 0, .int .u64 (n : Nat)]) ∧ w' = w := by
  have h1 : bits .and .u64 1 4294967295 = 1 := by decide
  have h2 : bits .and .u64 (n : Int) 4294967295 = (n : Int) := by
    have h := bits_and_u64_nat n 4294967295 (by omega) (by omega)
    have e : n &&& 4294967295 = n % 4294967296 := Nat.and_two_pow_sub_one_eq_mod n 32
    rw [e, Nat.mod_eq_of_lt (by omega)] at h
    exact h
  have h3 : (n : Int) / 4294967296 = 0 := by omega
  have h4 : IntKind.u64.wrap (n : Int) = (n : Int) := by rw [IntKind.wrap_u64]; omega
  have h5 : bits .and .u64 0 4294967295 = 0 := by decide
  go_enter Tryd.func64, Tryd.ntmps64
  go_wp2_with fail
  go_ret2
  exact ⟨rfl, rfl⟩

set_option maxHeartbeats 1000000 in
theorem mul_one (w : World) (n : Nat) (hn : n ≤ 1000000) :
    Calls Tryd.prog 51 #[.int .u64 1, .int .u64 (n : Nat)] w fun e w' => e = .returned (.tuple #[.int .u64 0, .int .u64 (n : Nat)]) ∧ w' = w := by
  have HC := mul64_one w n hn
  go_enter Tryd.func51, Tryd.ntmps51
  go_wp2_with fail
  refine HC.mono ?_
  rintro e w1 ⟨rfl, hw1⟩
  subst hw1
  clear HC
  go_wp2_with fail
  go_ret2
  exact ⟨rfl, rfl⟩

theorem splice_more {α : Type} {enc : α → List Value} {k : Nat} (ok : EncOk enc k) (x y : α) (n m N : Nat) (h : n + m ≤ N) :
    splice ((List.replicate n x ++ List.replicate (N - n) y).flatMap enc) (n * k) ((List.replicate m x).flatMap enc) = (List.replicate (n + m) x ++ List.replicate (N - (n + m)) y).flatMap enc := by
  have e1 : ((List.replicate n x).flatMap enc).length = n * k := by rw [flat_length ok, List.length_replicate]
  have e2 : ((List.replicate m x).flatMap enc).length = m * k := by rw [flat_length ok, List.length_replicate]
  have e3 : List.replicate (N - n) y = List.replicate m y ++ List.replicate (N - (n + m)) y := by rw [List.replicate_append_replicate]; congr 1; omega
  have e4 : ((List.replicate m y).flatMap enc).length = m * k := by rw [flat_length ok, List.length_replicate]
  unfold splice
  rw [List.flatMap_append, e2, List.take_append_of_le_length (by omega), List.take_of_length_le (by omega), List.drop_append, List.drop_eq_nil_of_le (by omega), e1, List.nil_append, Nat.add_sub_cancel_left, e3, List.flatMap_append, ← e4, List.drop_left, ← List.append_assoc, ← List.flatMap_append, List.replicate_append_replicate, ← List.flatMap_append]

theorem flat_rep_take {α : Type} {enc : α → List Value} {k : Nat} (ok : EncOk enc k) (x y : α) (n m N : Nat) (h : m ≤ n) : ((List.replicate n x ++ List.replicate N y).flatMap enc).take (m * k) = (List.replicate m x).flatMap enc := by
  have e1 : List.replicate n x = List.replicate m x ++ List.replicate (n - m) x := by rw [List.replicate_append_replicate]; congr 1; omega
  have e2 : ((List.replicate m x).flatMap enc).length = m * k := by rw [flat_length ok, List.length_replicate]
  rw [e1, List.append_assoc, List.flatMap_append, ← e2, List.take_left]

/-- A number's cell. -/
def natL (n : Nat) : List Value := [natV n]
theorem natL_ok : EncOk natL 1 := ⟨fun _ => rfl, fun x u hu => by simp [natL] at hu; subst hu; rfl, by decide⟩
theorem natL_flat (xs : List Nat) : xs.flatMap natL = xs.map natV := by
  induction xs with
  | nil => rfl
  | cons a r ih => rw [List.flatMap_cons, ih]; rfl

theorem Tryd.infoSt1 : (Tryd.prog.info? 35).map (·.size) = some 2 := by kernel_rfl
theorem Tryd.infoN1 : (Tryd.prog.info? 3).map (·.size) = some 1 := by kernel_rfl

set_option maxRecDepth 100000 in
set_option maxHeartbeats 2000000 in
theorem repeatS_any (w : World) (ad : Addr) (y : Int × Int) (N : Nat) (hx : CellsAt w ad (stC y)) (hN : N ≤ 1000) :
    Calls Tryd.prog 40 #[.slice (some ad) 1 1, .int .i64 (N : Nat)] w fun e w' => ∃ g, e = .returned (.slice (some ⟨g, 0, none⟩) N N) ∧ RowC w.heap.size 35 2 stC w' (.slice (some ⟨g, 0, none⟩) N N) (List.replicate N y) ∧ Same w w' := by
  have HMU := mul_one w N (by omega)
  have HX : Hid (CellsAt w ad (stC y)) := hx
  have hxb : ad.block < w.heap.size := by
    have h0 := hx 0
    have hl := stC_ok.len y
    rw [List.getElem?_eq_getElem (by rw [hl]; decide)] at h0
    have := World.block_lt_of_cell? w _ (h0 _ rfl)
    unfold Addr.add at this
    split at this <;> simpa using this
  have HXB : Hid (ad.block < w.heap.size) := hxb
  have hwN : wrap64 (N : Int) = (N : Int) := by unfold wrap64; omega
  have hwU : IntKind.u64.wrap (N : Int) = (N : Int) := by rw [IntKind.wrap_u64]; omega
  clear hx hxb
  obtain ⟨m, hm⟩ : ∃ m, m = Nat.min 1 N := ⟨_, rfl⟩
  have hm1 : m ≤ 1 := by rw [hm]; exact Nat.min_le_left _ _
  have hmN : m ≤ N := by rw [hm]; exact Nat.min_le_right _ _
  have hm0 : 0 < m ∨ N = 0 := by
    rw [hm]
    rcases Nat.eq_zero_or_pos N with h | h
    · exact .inr h
    · exact .inl (Nat.lt_min.2 ⟨by decide, h⟩)
  have HM : Hid (Nat.min 1 N = m) := hid hm.symm
  clear hm
  have HE0 : Hid (((List.replicate m y).flatMap stC).length = m * 2) := hid (by rw [flat_length stC_ok, List.length_replicate])
  have HCS0 : Hid (∀ w2, Same w w2 → 0 < ((List.replicate m y).flatMap stC).length → ∃ a, some ad = some a ∧ CellsAt w2 a ((List.replicate m y).flatMap stC)) := hid (fun w2 hk h => by
    refine ⟨ad, rfl, fun j u hu => hk.cell (HX.out j u ?_) (fun f => f)⟩
    have : m = 1 := by
      rcases Nat.eq_zero_or_pos m with e | e
      · subst e; simp at h
      · omega
    subst this
    simpa using hu)
  go_enter Tryd.func40, Tryd.ntmps40
  go_wp2_with fail
  refine HMU.mono ?_
  rintro e w1 ⟨rfl, hw1⟩
  subst hw1
  clear HMU
  go_wp2_with (first | (at_make; refine wpList_make_c _ stC 2 stC_ok (0, 0) w1.heap.size 29 35 (.agg #[.int .i64 0, .int .i64 0]) 16 Tryd.underlying29 Tryd.infoSt rfl (by decide) rfl _ _ rfl _ _ _ _ N rfl rfl rfl rfl (by omega) (Nat.le_refl _) ?_; intro w2 hr2 hg2 hs2; have HR2 : Hid (Raw w2 w1.heap.size 35 ((List.replicate N (0, 0)).flatMap stC)) := hid hr2.raw; have HK2 : Hid (Same w1 w2) := hid ((Kept.refl _ w1).grown hg2 (fun j e => by cases e)); clear hr2 hg2) | (with_reducible refine atCopy ?_; refine wpList_copy_k _ rfl (.tmp 31) (.tmp 32) 29 29 rfl 35 2 Tryd.underlying29 Tryd.infoSt1 w1.heap.size 0 N N (some ad) 1 1 rfl rfl _ 35 HR2.out ((List.replicate m y).flatMap stC) (by rw [HM.out]; exact HE0.out) (HCS0.out _ HK2.out) (by decide) (by rw [HE0.out, flat_length stC_ok, List.length_replicate, Nat.zero_add]; exact Nat.mul_le_mul_right _ hmN) (flat_one stC_ok _) m HM.out ?_; intro w3 hr3 hg3; have HR3 : Hid (Raw w3 w1.heap.size 35 ((List.replicate m y ++ List.replicate (N - m) (0, 0)).flatMap stC)) := hid (by have h := splice_more stC_ok y (0, 0) 0 m N (by omega); simp only [List.replicate_zero, List.nil_append, Nat.sub_zero, Nat.zero_mul, Nat.zero_add] at h; rw [← h]; exact hr3); have HK3 : Hid (Same w1 w3) := hid (HK2.out.grown hg3 (fun j e => .inr (by injection e with e; omega))); clear hr3 hg3))
  go_loopg [8] N (fun q z wr => ∃ (n : Nat), N - n ≤ q ∧ n ≤ N ∧ (0 < n ∨ N = 0) ∧ z = .int .i64 (n : Nat) ∧ Hid (Raw wr w1.heap.size 35 ((List.replicate n y ++ List.replicate (N - n) (0, 0)).flatMap stC)) ∧ Hid (Same w1 wr))
  case atStart => exact ⟨m, by omega, by omega, hm0, rfl, HR3, HK3⟩
  case round =>
    clear HR2 HK2 HR3 HK3 hm1 hmN hm0
    obtain ⟨n, hq, hn, hn0, rfl, HR, HK⟩ := hrel
    by_cases hlt : n < N
    · obtain ⟨j, hj⟩ : ∃ j, j = Nat.min n (N - n) := ⟨_, rfl⟩
      have hjn : j ≤ n := by rw [hj]; exact Nat.min_le_left _ _
      have hjN : j ≤ N - n := by rw [hj]; exact Nat.min_le_right _ _
      have hj0 : 0 < j := by rw [hj]; exact Nat.lt_min.2 ⟨by omega, by omega⟩
      have HJ : Hid (Nat.min n (N - n) = j) := hid hj.symm
      clear hj
      obtain ⟨t, ht⟩ : ∃ t, t = n + j := ⟨_, rfl⟩
      have htI : (n : Int) + (j : Int) = (t : Int) := by omega
      have htw : IntKind.i64.wrap (t : Int) = (t : Int) := by rw [IntKind.wrap_i64]; omega
      have htN : t ≤ N := by omega
      have htn : n < t := by omega
      have HT : Hid (t = n + j) := ht
      have HE1 : Hid (((List.replicate j y).flatMap stC).length = j * 2) := hid (by rw [flat_length stC_ok, List.length_replicate])
      have HA1 : Hid (CellsAt wr ⟨w1.heap.size, 0, none⟩ ((List.replicate j y).flatMap stC)) := hid (by rw [← flat_rep_take stC_ok y (0, 0) n j (N - n) hjn]; exact HR.out.at _)
      have HF1 : Hid (n * 2 + ((List.replicate j y).flatMap stC).length ≤ ((List.replicate n y ++ List.replicate (N - n) (0, 0)).flatMap stC).length) := hid (by rw [HE1.out, flat_length stC_ok, List.length_append, List.length_replicate, List.length_replicate, ← Nat.add_mul]; exact Nat.mul_le_mul_right _ (by omega))
      have hNe : ¬ N = n := by omega
      clear ht hjN hj0
      go_wp2_with fail
      go_region_law (refine step_copy_k rfl (.tmp 41) (.tmp 44) 29 29 rfl 35 2 Tryd.underlying29 Tryd.infoSt1 w1.heap.size (n * 2) (N - n) (N - n) ⟨w1.heap.size, 0, none⟩ n N (by simp [Act.eval, Act.put]) (by simp [Act.eval, Act.put]) _ 35 HR.out ((List.replicate j y).flatMap stC) (by rw [HJ.out]; exact HE1.out) HA1.out HF1.out (flat_one stC_ok _) j HJ.out ?_; intro w4 hr4 hg4)
      all_goals
        have HR4 : Hid (Raw w4 w1.heap.size 35 ((List.replicate t y ++ List.replicate (N - t) (0, 0)).flatMap stC)) := hid (by have h := splice_more stC_ok y (0, 0) n j N (by have := HT.out; omega); rw [← HT.out] at h; rw [← h]; exact hr4)
        have HK4 : Hid (Same w1 w4) := hid (HK.out.drew.grown hg4 (fun i e => .inr (by injection e with e; omega)))
        clear hr4 hg4
        go_wp2_with fail
        go_roundg (gk - 1)
        case measure => omega
        case rel => exact ⟨t, by omega, htN, .inl (by omega), rfl, HR4, HK4⟩
    · have hnN : n = N := by omega
      have HR4 : Hid (Raw wr w1.heap.size 35 ((List.replicate N y).flatMap stC)) := hid (by have h := HR.out; rw [hnN, Nat.sub_self] at h; simpa using h)
      clear hnN HR
      go_wp2_with fail
      go_ret
      refine ⟨_, rfl, ?_, HK.out⟩
      have h := HR4.out.row (B := w1.heap.size) stC_ok (Nat.le_refl _) (by simp [maxLen]; omega)
      rw [List.length_replicate] at h
      exact h

set_option maxRecDepth 100000 in
set_option maxHeartbeats 2000000 in
theorem repeatN_any (w : World) (ad : Addr) (y : Nat) (N : Nat) (hx : CellsAt w ad (natL y)) (hN : N ≤ 1000) :
    Calls Tryd.prog 42 #[.slice (some ad) 1 1, .int .i64 (N : Nat)] w fun e w' => ∃ g, e = .returned (.slice (some ⟨g, 0, none⟩) N N) ∧ RowC w.heap.size 3 1 natL w' (.slice (some ⟨g, 0, none⟩) N N) (List.replicate N y) ∧ Same w w' := by
  have HMU := mul_one w N (by omega)
  have HX : Hid (CellsAt w ad (natL y)) := hx
  have hxb : ad.block < w.heap.size := by
    have h0 := hx 0
    have hl := natL_ok.len y
    rw [List.getElem?_eq_getElem (by rw [hl]; decide)] at h0
    have := World.block_lt_of_cell? w _ (h0 _ rfl)
    unfold Addr.add at this
    split at this <;> simpa using this
  have HXB : Hid (ad.block < w.heap.size) := hxb
  have hwN : wrap64 (N : Int) = (N : Int) := by unfold wrap64; omega
  have hwU : IntKind.u64.wrap (N : Int) = (N : Int) := by rw [IntKind.wrap_u64]; omega
  clear hx hxb
  obtain ⟨m, hm⟩ : ∃ m, m = Nat.min 1 N := ⟨_, rfl⟩
  have hm1 : m ≤ 1 := by rw [hm]; exact Nat.min_le_left _ _
  have hmN : m ≤ N := by rw [hm]; exact Nat.min_le_right _ _
  have hm0 : 0 < m ∨ N = 0 := by
    rw [hm]
    rcases Nat.eq_zero_or_pos N with h | h
    · exact .inr h
    · exact .inl (Nat.lt_min.2 ⟨by decide, h⟩)
  have HM : Hid (Nat.min 1 N = m) := hid hm.symm
  clear hm
  have HE0 : Hid (((List.replicate m y).flatMap natL).length = m * 1) := hid (by rw [flat_length natL_ok, List.length_replicate])
  have HCS0 : Hid (∀ w2, Same w w2 → 0 < ((List.replicate m y).flatMap natL).length → ∃ a, some ad = some a ∧ CellsAt w2 a ((List.replicate m y).flatMap natL)) := hid (fun w2 hk h => by
    refine ⟨ad, rfl, fun j u hu => hk.cell (HX.out j u ?_) (fun f => f)⟩
    have : m = 1 := by
      rcases Nat.eq_zero_or_pos m with e | e
      · subst e; simp at h
      · omega
    subst this
    simpa using hu)
  go_enter Tryd.func42, Tryd.ntmps42
  go_wp2_with fail
  refine HMU.mono ?_
  rintro e w1 ⟨rfl, hw1⟩
  subst hw1
  clear HMU
  go_wp2_with (first | (at_make; refine wpList_make_c _ natL 1 natL_ok 0 w1.heap.size 22 3 (.int .i64 0) 8 Tryd.underlying22 Tryd.infoN rfl (by decide) rfl _ _ rfl _ _ _ _ N rfl rfl rfl rfl (by omega) (Nat.le_refl _) ?_; intro w2 hr2 hg2 hs2; have HR2 : Hid (Raw w2 w1.heap.size 3 ((List.replicate N 0).flatMap natL)) := hid hr2.raw; have HK2 : Hid (Same w1 w2) := hid ((Kept.refl _ w1).grown hg2 (fun j e => by cases e)); clear hr2 hg2) | (with_reducible refine atCopy ?_; refine wpList_copy_k _ rfl (.tmp 31) (.tmp 32) 22 22 rfl 3 1 Tryd.underlying22 Tryd.infoN1 w1.heap.size 0 N N (some ad) 1 1 rfl rfl _ 3 HR2.out ((List.replicate m y).flatMap natL) (by rw [HM.out]; exact HE0.out) (HCS0.out _ HK2.out) (by decide) (by rw [HE0.out, flat_length natL_ok, List.length_replicate, Nat.zero_add]; exact Nat.mul_le_mul_right _ hmN) (flat_one natL_ok _) m HM.out ?_; intro w3 hr3 hg3; have HR3 : Hid (Raw w3 w1.heap.size 3 ((List.replicate m y ++ List.replicate (N - m) 0).flatMap natL)) := hid (by have h := splice_more natL_ok y 0 0 m N (by omega); simp only [List.replicate_zero, List.nil_append, Nat.sub_zero, Nat.zero_mul, Nat.zero_add] at h; rw [← h]; exact hr3); have HK3 : Hid (Same w1 w3) := hid (HK2.out.grown hg3 (fun j e => .inr (by injection e with e; omega))); clear hr3 hg3))
  go_loopg [8] N (fun q z wr => ∃ (n : Nat), N - n ≤ q ∧ n ≤ N ∧ (0 < n ∨ N = 0) ∧ z = .int .i64 (n : Nat) ∧ Hid (Raw wr w1.heap.size 3 ((List.replicate n y ++ List.replicate (N - n) 0).flatMap natL)) ∧ Hid (Same w1 wr))
  case atStart => exact ⟨m, by omega, by omega, hm0, rfl, HR3, HK3⟩
  case round =>
    clear HR2 HK2 HR3 HK3 hm1 hmN hm0
    obtain ⟨n, hq, hn, hn0, rfl, HR, HK⟩ := hrel
    by_cases hlt : n < N
    · obtain ⟨j, hj⟩ : ∃ j, j = Nat.min n (N - n) := ⟨_, rfl⟩
      have hjn : j ≤ n := by rw [hj]; exact Nat.min_le_left _ _
      have hjN : j ≤ N - n := by rw [hj]; exact Nat.min_le_right _ _
      have hj0 : 0 < j := by rw [hj]; exact Nat.lt_min.2 ⟨by omega, by omega⟩
      have HJ : Hid (Nat.min n (N - n) = j) := hid hj.symm
      clear hj
      obtain ⟨t, ht⟩ : ∃ t, t = n + j := ⟨_, rfl⟩
      have htI : (n : Int) + (j : Int) = (t : Int) := by omega
      have htw : IntKind.i64.wrap (t : Int) = (t : Int) := by rw [IntKind.wrap_i64]; omega
      have htN : t ≤ N := by omega
      have htn : n < t := by omega
      have HT : Hid (t = n + j) := ht
      have HE1 : Hid (((List.replicate j y).flatMap natL).length = j * 1) := hid (by rw [flat_length natL_ok, List.length_replicate])
      have HA1 : Hid (CellsAt wr ⟨w1.heap.size, 0, none⟩ ((List.replicate j y).flatMap natL)) := hid (by rw [← flat_rep_take natL_ok y 0 n j (N - n) hjn]; exact HR.out.at _)
      have HF1 : Hid (n * 1 + ((List.replicate j y).flatMap natL).length ≤ ((List.replicate n y ++ List.replicate (N - n) 0).flatMap natL).length) := hid (by rw [HE1.out, flat_length natL_ok, List.length_append, List.length_replicate, List.length_replicate, ← Nat.add_mul]; exact Nat.mul_le_mul_right _ (by omega))
      have hNe : ¬ N = n := by omega
      clear ht hjN hj0
      go_wp2_with fail
      go_region_law (refine step_copy_k rfl (.tmp 41) (.tmp 44) 22 22 rfl 3 1 Tryd.underlying22 Tryd.infoN1 w1.heap.size (n * 1) (N - n) (N - n) ⟨w1.heap.size, 0, none⟩ n N (by simp [Act.eval, Act.put]) (by simp [Act.eval, Act.put]) _ 3 HR.out ((List.replicate j y).flatMap natL) (by rw [HJ.out]; exact HE1.out) HA1.out HF1.out (flat_one natL_ok _) j HJ.out ?_; intro w4 hr4 hg4)
      all_goals
        have HR4 : Hid (Raw w4 w1.heap.size 3 ((List.replicate t y ++ List.replicate (N - t) 0).flatMap natL)) := hid (by have h := splice_more natL_ok y 0 n j N (by have := HT.out; omega); rw [← HT.out] at h; rw [← h]; exact hr4)
        have HK4 : Hid (Same w1 w4) := hid (HK.out.drew.grown hg4 (fun i e => .inr (by injection e with e; omega)))
        clear hr4 hg4
        go_wp2_with fail
        go_roundg (gk - 1)
        case measure => omega
        case rel => exact ⟨t, by omega, htN, .inl (by omega), rfl, HR4, HK4⟩
    · have hnN : n = N := by omega
      have HR4 : Hid (Raw wr w1.heap.size 3 ((List.replicate N y).flatMap natL)) := hid (by have h := HR.out; rw [hnN, Nat.sub_self] at h; simpa using h)
      clear hnN HR
      go_wp2_with fail
      go_ret
      refine ⟨_, rfl, ?_, HK.out⟩
      have h := HR4.out.row (B := w1.heap.size) natL_ok (Nat.le_refl _) (by simp [maxLen]; omega)
      rw [List.length_replicate] at h
      exact h

end Go.Proofs.YtofhlnpbflkdlabDoor

/-
  The decoder's calls: Max, New, search, Next.
-/
namespace Go.Proofs.YtofhlnpbflkdlabDoor
open Go.RowKit

set_option maxHeartbeats 1000000 in
theorem max_any (w : World) (v : Value) (I : Nat → Prop) (ns : List Nat) (hs : SrcE natV w I v ns) (hn : ns.length ≤ 1000000) (h0 : 0 < ns.length) (h15 : ∀ n ∈ ns, n ≤ 1000000000000) :
    Calls Tryd.prog 54 #[v] w fun e w' => e = .returned (.int .i64 (mxL ns : Nat)) ∧ w' = w := by
  obtain ⟨b, o, cap, rfl, _, _, c0⟩ := hs.get 0 h0
  have HS : Hid (SrcE natV w I (.slice (some ⟨b, o, none⟩) ns.length cap) ns) := hs
  have H15 : Hid (∀ n ∈ ns, n ≤ 1000000000000) := h15
  clear hs h15
  obtain ⟨x0, hx0⟩ : ∃ x, x = ns[0] := ⟨_, rfl⟩
  rw [← hx0] at c0
  unfold natV at c0
  have HX0 : Hid (x0 = ns[0]) := hx0
  clear hx0
  rw [Nat.add_zero] at c0
  have hlen : ((ns.length : Int) < 1) = False := by simp; omega
  go_enter Tryd.func54, Tryd.ntmps54
  go_wp2_with fail
  clear hlen
  go_loopg [3, 4] ns.length (fun q zm zi wr => ∃ (i m : Nat), ns.length - i ≤ q ∧ i ≤ ns.length ∧ 1 ≤ i ∧ zi = .int .i64 (i : Nat) ∧ zm = .int .i64 (m : Nat) ∧ wr = w ∧ Hid (m = (ns.take i).foldl max 0))
  case atStart => exact ⟨1, x0, by omega, by omega, by omega, rfl, rfl, rfl, hid (by
    rw [show (1 : Nat) = 0 + 1 from rfl, List.take_succ_eq_append_getElem h0, ← HX0.out]; simp)⟩
  case round =>
    obtain ⟨i, m, hq, hi, h1i, rfl, rfl, rfl, HF⟩ := hrel
    by_cases hlt : i < ns.length
    · obtain ⟨b2, o2, cap2, e, _, _, c1⟩ := HS.out.get i hlt
      simp only [Value.slice.injEq, Option.some.injEq, Addr.mk.injEq, and_true] at e
      obtain ⟨⟨rfl, rfl⟩, hxe, rfl⟩ := e
      clear hxe
      obtain ⟨x, hx⟩ : ∃ x, x = ns[i] := ⟨_, rfl⟩
      rw [← hx] at c1
      unfold natV at c1
      have HX : Hid (x = ns[i]) := hx
      clear hx
      by_cases hmx : m < x
      · go_wp2_with fail
        go_roundg (gk - 1)
        case measure => omega
        case rel => exact ⟨i + 1, x, by omega, by omega, by omega, by go_num, by first | rfl | (congr 1; omega), rfl, hid (by rw [List.take_succ_eq_append_getElem hlt, List.foldl_append, ← HF.out, ← HX.out]; simp [Nat.max_eq_right (show m ≤ x by omega)])⟩
      · go_wp2_with fail
        go_roundg (gk - 1)
        case measure => omega
        case rel => exact ⟨i + 1, m, by omega, by omega, by omega, by go_num, by first | rfl | (congr 1; omega), rfl, hid (by rw [List.take_succ_eq_append_getElem hlt, List.foldl_append, ← HF.out, ← HX.out]; simp [Nat.max_eq_left (show x ≤ m by omega)])⟩
    · have hi2 : i = ns.length := by omega
      subst hi2
      go_wp2_with fail
      go_ret
      have h := HF.out
      rw [List.take_of_length_le (Nat.le_refl _)] at h
      exact ⟨by rw [mxL, ← h]; rfl, rfl⟩

/-- A decoder at block p. -/
structure Dec (w : World) (p : Nat) (vc vs : Value) (ns : List Nat) : Prop where
  cc : w.cell? ⟨p, 0, none⟩ = some vc
  cs : w.cell? ⟨p, 1, none⟩ = some vs
  rc : NRow 0 w vc (cntL ns)
  rs : NRow 0 w vs (ris ns)

/-- The blocks of a decoder. -/
def DF (p : Nat) (vc vs : Value) (k : Nat) : Prop := k = p ∨ vc.ownBlock = some k ∨ vs.ownBlock = some k

theorem Dec.kept {F : Nat → Prop} {w w' : World} {p : Nat} {vc vs : Value} {ns : List Nat} (h : Dec w p vc vs ns) (hk : Kept F w w') (hF : ∀ k, DF p vc vs k → ¬ F k) : Dec w' p vc vs ns :=
  ⟨hk.cell h.cc (hF p (.inl rfl)), hk.cell h.cs (hF p (.inl rfl)), h.rc.kept hk (fun k e => hF k (.inr (.inl e))), h.rs.kept hk (fun k e => hF k (.inr (.inr e)))⟩

theorem Dec.lt {w : World} {p : Nat} {vc vs : Value} {ns : List Nat} (h : Dec w p vc vs ns) {k : Nat} (hk : DF p vc vs k) : k < w.heap.size := by
  rcases hk with rfl | hk | hk
  · exact World.block_lt_of_cell? w _ h.cc
  · exact h.rc.lt hk
  · exact h.rs.lt hk

theorem Dec.drewN {w : World} {p : Nat} {vc vs : Value} {ns : List Nat} (h : Dec w p vc vs ns) (k : Nat) : Dec (w.drewN k) p vc vs ns := ⟨h.cc, h.cs, h.rc, h.rs⟩

theorem new_bad (w : World) (v : Value) (I : Nat → Prop) (zs : List Int) (hs : SrcE intV w I v zs) (hn : zs.length ≤ 1000000) (hb : chk zs ≠ 0) :
    Calls Tryd.prog 43 #[v] w fun e w' => e = .returned (.tuple #[.pointer none, .int .i64 (chk zs : Nat)]) ∧ Same w w' := by
  have HC := check_any w v I zs hs hn
  generalize chk zs = c at HC hb
  have hd : ((c : Int) != 0) = true := by simp; omega
  clear hs hb
  go_enter Tryd.func43, Tryd.ntmps43
  go_wp2_with fail
  refine HC.mono ?_
  rintro e w2 ⟨rfl, hk⟩
  have HK : Hid (Same w w2) := hk
  clear hk HC
  go_wp2_with fail
  first
    | (go_ret2; exact ⟨rfl, HK.out⟩)
    | (go_quiet (fail); go_wp2_with fail; go_ret2; exact ⟨rfl, HK.out.drewN _⟩)

set_option maxHeartbeats 2000000 in
theorem search_any (w : World) (p : Nat) (vc vs : Value) (ns : List Nat) (R h : Nat) (hd : Dec w p vc vs ns) (hm : mxL ns ≤ 15) (hns : ns.length ≤ 288) (hh : h ≤ mxL ns) (hR : R < 4294967296) :
    Calls Tryd.prog 65 #[.pointer (some ⟨p, 0, none⟩), .int .u32 (R : Nat), .int .i64 (h : Nat)] w fun e w' => (∃ sym long er, e = .returned (.tuple #[.int .i64 (sym : Nat), .int .i64 (long : Nat), .int .i64 (er : Nat)]) ∧ Ans ns h R sym long er) ∧ Same w w' := by
  obtain ⟨ac, capc, rfl, shc, _⟩ := hd.rc.shape
  obtain ⟨as', caps, rfl, shs, _⟩ := hd.rs.shape
  have c1 := hd.cc
  have c2 := hd.cs
  have HD : Hid (Dec w p (.slice ac (cntL ns).length capc) (.slice as' (ris ns).length caps) ns) := hd
  have HM : Hid (mxL ns = (cntL ns).length) := hid (by simp [cntL])
  have hcl : (cntL ns).length ≤ 15 := by have := HM.out; omega
  have hhl : h ≤ (cntL ns).length := by have := HM.out; omega
  have HRL : Hid ((ris ns).length ≤ 288) := hid (Nat.le_trans (ris_length ns) hns)
  clear hd hm shc shs hh
  generalize hcn : (cntL ns).length = cn at *
  have HCN : Hid ((cntL ns).length = cn) := hcn
  clear hcn
  go_enter Tryd.func65, Tryd.ntmps65
  go_wp2_with fail
  go_step3
  go_wp2_with fail
  go_step3
  go_wp2_with fail
  go_loopg [6, 7, 8, 9, 10, 18] cn (fun q z6 z7 z8 zp za zn wr => ∃ (n place ahead : Nat), cn - n ≤ q ∧ n ≤ cn ∧ n ≤ h ∧ place ≤ 32768 ∧ ahead ≤ 288 ∧ z6 = .int .i64 0 ∧ z7 = .int .i64 0 ∧ z8 = .int .i64 32 ∧ zp = .int .i64 (place : Nat) ∧ za = .int .i64 (ahead : Nat) ∧ zn = .int .i64 (n : Nat) ∧ Hid (Seek ns R n place ahead) ∧ Hid (Same w wr))
  case atStart => exact ⟨0, 0, 0, by omega, by omega, by omega, by omega, by omega, rfl, rfl, rfl, rfl, rfl, rfl, Seek.start ns R, Kept.refl _ _⟩
  case round =>
    obtain ⟨n, place, ahead, hq, hn, hnh, hp1, hp2, rfl, rfl, rfl, rfl, rfl, rfl, HF, HK⟩ := hrel
    have d2 : wr.cell? ⟨p, 1, none⟩ = some (.slice as' (ris ns).length caps) := HK.out.cell c2 (fun h => h)
    by_cases hlt : n < cn
    · obtain ⟨b, o, cap', e, _, _, cx⟩ := (SrcE.ofRow (HD.out.rc.same HK.out)).get n (by have := HCN.out; omega)
      simp only [Value.slice.injEq] at e
      obtain ⟨rfl, hxe, rfl⟩ := e
      clear hxe
      obtain ⟨x, hx⟩ : ∃ x, x = ofN ns (n + 1) := ⟨_, rfl⟩
      have cx2 : wr.cell? ⟨b, o + n, none⟩ = some (.int .i64 (x : Int)) := by rw [cx, hx]; simp [natV, cntL]
      have HX : Hid (x = ofN ns (n + 1)) := hx
      clear cx hx
      obtain ⟨bt, hbt⟩ : ∃ bt, bt = R / 2 ^ n % 2 := ⟨_, rfl⟩
      have hbl : bt < 2 := by omega
      have hbi : bits .and .u32 ((R : Int) / 2 ^ n) 1 = (bt : Int) := by
        have e1 : (R : Int) / 2 ^ n = ((R / 2 ^ n : Nat) : Int) := by simp
        have := u32_and_nat (R / 2 ^ n) 1 (Nat.lt_of_le_of_lt (Nat.div_le_self _ _) hR) (by decide)
        rw [e1, hbt]
        rw [Nat.and_one_is_mod] at this
        exact this
      have HB : Hid (bt = R / 2 ^ n % 2) := hbt
      have hx288 : x ≤ 288 := by
        have h1 := upN_succ ns n; have h2 := upN_le ns (n + 1); have h3 := HX.out; have h4 := HRL.out; omega
      clear hbt
      by_cases hend : n = h
      · have hdn : ((n : Int) == (h : Int)) = true := by simp [hend]
        have HE : Hid (n = h) := hend
        clear hend
        go_wp2_with fail
        rw [Exit.noGoto_ret]
        go_ret3
        refine ⟨⟨0, 0, 10, rfl, .inr (.inl ⟨rfl, rfl, rfl, ?_, ?_⟩)⟩, HK.out⟩
        · have := HM.out; have := HCN.out; have := HE.out; omega
        · have h1 := HF.out.pl
          rw [HE.out] at h1
          omega
      · have hdn : ((n : Int) == (h : Int)) = false := by simp; omega
        by_cases hfd : 2 * place + bt < x
        · obtain ⟨hk, hkey, hcode⟩ := HF.out.found (by omega) (by rw [← HB.out, ← HX.out]; exact hfd)
          obtain ⟨b3, o3, cap3, e3, _, _, c3⟩ := (SrcE.ofRow (HD.out.rs.same HK.out)).get _ hk
          simp only [Value.slice.injEq] at e3
          obtain ⟨rfl, hxe, rfl⟩ := e3
          clear hxe
          obtain ⟨sy, hsy⟩ : ∃ sy, sy = (ris ns)[ahead + (2 * place + R / 2 ^ n % 2)] := ⟨_, rfl⟩
          rw [← hsy] at c3 hkey hcode
          rw [← HB.out] at c3 hk
          unfold natV at c3
          have HANS : Hid (Ans ns h R sy (n + 1) 0) := hid (.inl ⟨rfl, by rw [hsy]; exact List.getElem_mem _, hkey.symm, by omega, hcode⟩)
          clear hsy hkey hcode
          have hrl := HRL.out
          go_wp2_with fail
          rw [Exit.noGoto_ret]
          go_ret3
          exact ⟨⟨sy, n + 1, 0, rfl, HANS.out⟩, HK.out⟩
        · have HS2 : Hid (Seek ns R (n + 1) (2 * place + bt - x) (ahead + x)) := hid (by
            have := HF.out.next (by omega) (by rw [← HB.out, ← HX.out]; exact hfd)
            rw [← HB.out, ← HX.out] at this; exact this)
          have hah : ahead + x ≤ 288 := by
            have h1 := HS2.out.ah; have h2 := upN_le ns (n + 1); have h4 := HRL.out; omega
          have hpl : 2 * place + bt - x ≤ 32768 := by
            have h1 := HS2.out.pl
            have h2 := rv_lt (n + 1) R
            have h3 : rv (n + 1) R * 2 ^ (15 - (n + 1)) ≤ 2 ^ (n + 1) * 2 ^ (15 - (n + 1)) := Nat.mul_le_mul_right _ (by omega)
            rw [← Nat.pow_add, show n + 1 + (15 - (n + 1)) = 15 by omega] at h3
            have h4 : (2 * place + bt - x) * 1 ≤ (2 * place + bt - x) * 2 ^ (15 - (n + 1)) := Nat.mul_le_mul_left _ (Nat.two_pow_pos _)
            have h5 : (2 : Nat) ^ 15 = 32768 := by decide
            omega
          go_wp2_with fail
          go_roundg (gk - 1)
          case measure => omega
          case rel => exact ⟨n + 1, 2 * place + bt - x, ahead + x, by omega, by omega, by omega, hpl, hah, rfl, rfl, rfl, by congr 1; omega, by congr 1, by go_num, HS2, HK⟩
    · have hn2 : n = cn := by omega
      subst hn2
      go_wp2_with fail
      rw [Exit.noGoto_ret]
      go_ret3
      refine ⟨⟨0, 0, 32, rfl, .inr (.inr ⟨rfl, rfl, rfl, ?_, ?_⟩)⟩, HK.out⟩
      · have := HM.out; have := HCN.out; omega
      · have h1 := HF.out.pl
        have h2 : n = mxL ns := by have := HM.out; have := HCN.out; omega
        have h3 : n = h := by omega
        rw [← sumTo_all, ← upN_all ns, ← h2, ← h3]
        omega

end Go.Proofs.YtofhlnpbflkdlabDoor

/-
  The decoder's calls: New, Next.
-/
namespace Go.Proofs.YtofhlnpbflkdlabDoor
open Go.RowKit

theorem cntL_length (ns : List Nat) : (cntL ns).length = mxL ns := by simp [cntL]

set_option maxHeartbeats 2000000 in
theorem next_any (w : World) (d : Nat) (vc vs : Value) (ns : List Nat) (p c : Nat) (s : Value) (bs : List Nat) (hd : Dec w d vc vs ns) (hm : mxL ns ≤ 15) (hns : ns.length ≤ 288) (hs : St w p s bs c) (hc : c ≤ 8 * bs.length) (hlen : bs.length ≤ 100000000) (hdis : ∀ k, DF d vc vs k → ¬ Fp p s k) :
    Calls Tryd.prog 55 #[.pointer (some ⟨d, 0, none⟩), .pointer (some ⟨p, 0, none⟩)] w fun e w' => (∃ sym long er, e = .returned (.tuple #[.int .i64 (sym : Nat), .int .i64 (er : Nat)]) ∧
      Ans ns (min (8 * bs.length - c) (mxL ns)) (n256 bs / 2 ^ c % 2 ^ (min (8 * bs.length - c) (mxL ns))) sym long er ∧ St w' p s bs (c + long)) ∧ Kept (· = p) w w' := by
  have HL := fun q => left_any p c s bs (w.drewN q) (hs.drewN q) hc (by omega)
  obtain ⟨ac, capc, rfl, shc, _⟩ := hd.rc.shape
  have c1 := hd.cc
  have HD : Hid (Dec w d (.slice ac (cntL ns).length capc) vs ns) := hd
  have HS : Hid (St w p s bs c) := hs
  have HX : Hid (∀ k, DF d (.slice ac (cntL ns).length capc) vs k → ¬ Fp p s k) := hdis
  have hcl := cntL_length ns
  obtain ⟨left, hleft⟩ : ∃ left, left = 8 * bs.length - c := ⟨_, rfl⟩
  rw [← hleft] at HL ⊢
  obtain ⟨mx, hmx⟩ : ∃ mx, mx = mxL ns := ⟨_, rfl⟩
  rw [← hmx] at hcl hm ⊢
  have HMX : Hid (mx = mxL ns) := hmx
  have HLEFT : Hid (left = 8 * bs.length - c) := hleft
  have HCL : Hid ((cntL ns).length = mx) := hcl
  clear hd hs hdis hmx hleft shc
  rw [hcl] at c1 HD HX
  clear hcl
  go_enter Tryd.func55, Tryd.ntmps55
  by_cases hlm : mx < left
  · have HMIN : Hid (min left mx = mx) := hid (by omega)
    go_wp2_with fail
    go_quiet ((go_at_call 52; exact Calls.quiet_of (HL _)))
    have HT := take_good p c mx s bs (w.drewN nq) (HS.out.drewN nq) (by omega) (by omega) (by have := HLEFT.out; omega)
    obtain ⟨R, hR⟩ : ∃ R, R = n256 bs / 2 ^ c % 2 ^ mx := ⟨_, rfl⟩
    rw [← hR] at HT
    have HR : Hid (R = n256 bs / 2 ^ c % 2 ^ mx) := hR
    have hRl : R < 4294967296 := by
      have h1 : R < 2 ^ mx := by rw [hR]; exact Nat.mod_lt _ (Nat.two_pow_pos _)
      have h2 : 2 ^ mx ≤ 2 ^ 15 := Nat.pow_le_pow_right (by omega) (by omega)
      have h3 : (2 : Nat) ^ 15 = 32768 := by decide
      omega
    clear hR
    go_wp2_with fail
    refine HT.mono ?_
    rintro e w1 ⟨rfl, hst1, hk1⟩
    have HS1 : Hid (St w1 p s bs (c + mx)) := hst1
    have HK1 : Hid (Kept (· = p) w w1) := hid (((Kept.refl (· = p) w).drewN nq).trans hk1 (fun _ _ h => h) (fun _ _ h => h))
    have HSE := search_any w1 d _ vs ns R mx (HD.out.kept HK1.out (fun k hk e => HX.out k hk (.inl e))) (by have := HMX.out; omega) hns (by have := HMX.out; omega) hRl
    clear hst1 hk1 HT
    go_wp2_with fail
    refine HSE.mono ?_
    rintro e w2 ⟨⟨sym, long, er, rfl, hans⟩, hk2⟩
    have HANS : Hid (Ans ns mx R sym long er) := hans
    have hll : long ≤ mx := by
      rcases hans with ⟨_, _, _, h, _⟩ | ⟨_, _, h, _⟩ | ⟨_, _, h, _⟩
      · exact h
      · omega
      · omega
    have hsub : ((mx : Int) - (long : Int)) = ((mx - long : Nat) : Int) := by omega
    have HS2 : Hid (St w2 p s bs (c + mx)) := hid (HS1.out.kept hk2 (fun _ _ h => h))
    have HK2 : Hid (Kept (· = p) w w2) := hid (HK1.out.trans hk2 (fun _ _ h => h) (fun _ _ h => h.elim))
    have HBK := back_good p (c + mx) (mx - long) s bs w2 HS2.out (by omega) (by have := HLEFT.out; omega)
    clear hans hk2 HSE
    go_wp2_with fail
    refine HBK.mono ?_
    rintro e w3 ⟨rfl, hst3, hk3⟩
    have HS3 : Hid (St w3 p s bs (c + long)) := hid (by rw [show c + mx - (mx - long) = c + long by omega] at hst3; exact hst3)
    have HK3 : Hid (Kept (· = p) w w3) := hid (HK2.out.trans hk3 (fun _ _ h => h) (fun _ _ h => h))
    clear hst3 hk3 HBK
    go_wp2_with fail
    go_ret2
    exact ⟨⟨sym, long, er, rfl, by rw [HMIN.out, ← HR.out]; exact HANS.out, HS3.out⟩, HK3.out⟩
  · have HMIN : Hid (min left mx = left) := hid (by omega)
    go_wp2_with fail
    go_quiet ((go_at_call 52; exact Calls.quiet_of (HL _)))
    have HT := take_good p c left s bs (w.drewN nq) (HS.out.drewN nq) (by omega) (by omega) (by have := HLEFT.out; omega)
    obtain ⟨R, hR⟩ : ∃ R, R = n256 bs / 2 ^ c % 2 ^ left := ⟨_, rfl⟩
    rw [← hR] at HT
    have HR : Hid (R = n256 bs / 2 ^ c % 2 ^ left) := hR
    have hRl : R < 4294967296 := by
      have h1 : R < 2 ^ left := by rw [hR]; exact Nat.mod_lt _ (Nat.two_pow_pos _)
      have h2 : 2 ^ left ≤ 2 ^ 15 := Nat.pow_le_pow_right (by omega) (by omega)
      have h3 : (2 : Nat) ^ 15 = 32768 := by decide
      omega
    clear hR
    go_wp2_with fail
    refine HT.mono ?_
    rintro e w1 ⟨rfl, hst1, hk1⟩
    have HS1 : Hid (St w1 p s bs (c + left)) := hst1
    have HK1 : Hid (Kept (· = p) w w1) := hid (((Kept.refl (· = p) w).drewN nq).trans hk1 (fun _ _ h => h) (fun _ _ h => h))
    have HSE := search_any w1 d _ vs ns R left (HD.out.kept HK1.out (fun k hk e => HX.out k hk (.inl e))) (by have := HMX.out; omega) hns (by have := HMX.out; omega) hRl
    clear hst1 hk1 HT
    go_wp2_with fail
    refine HSE.mono ?_
    rintro e w2 ⟨⟨sym, long, er, rfl, hans⟩, hk2⟩
    have HANS : Hid (Ans ns left R sym long er) := hans
    have hll : long ≤ left := by
      rcases hans with ⟨_, _, _, h, _⟩ | ⟨_, _, h, _⟩ | ⟨_, _, h, _⟩
      · exact h
      · omega
      · omega
    have hsub : ((left : Int) - (long : Int)) = ((left - long : Nat) : Int) := by omega
    have HS2 : Hid (St w2 p s bs (c + left)) := hid (HS1.out.kept hk2 (fun _ _ h => h))
    have HK2 : Hid (Kept (· = p) w w2) := hid (HK1.out.trans hk2 (fun _ _ h => h) (fun _ _ h => h.elim))
    have HBK := back_good p (c + left) (left - long) s bs w2 HS2.out (by omega) (by have := HLEFT.out; omega)
    clear hans hk2 HSE
    go_wp2_with fail
    refine HBK.mono ?_
    rintro e w3 ⟨rfl, hst3, hk3⟩
    have HS3 : Hid (St w3 p s bs (c + long)) := hid (by rw [show c + left - (left - long) = c + long by omega] at hst3; exact hst3)
    have HK3 : Hid (Kept (· = p) w w3) := hid (HK2.out.trans hk3 (fun _ _ h => h) (fun _ _ h => h))
    clear hst3 hk3 HBK
    go_wp2_with fail
    go_ret2
    exact ⟨⟨sym, long, er, rfl, by rw [HMIN.out, ← HR.out]; exact HANS.out, HS3.out⟩, HK3.out⟩

theorem next_none (w : World) (rv' : Value) : Calls Tryd.prog 55 #[.pointer none, rv'] w fun e w' => e = .returned (.tuple #[.int .i64 0, .int .i64 3]) ∧ w' = w := by
  go_enter Tryd.func55, Tryd.ntmps55
  go_wp2_with fail
  go_ret2
  exact ⟨rfl, rfl⟩

theorem next_noreader (w : World) (d : Nat) : Calls Tryd.prog 55 #[.pointer (some ⟨d, 0, none⟩), .pointer none] w fun e w' => e = .returned (.tuple #[.int .i64 0, .int .i64 3]) ∧ w' = w := by
  go_enter Tryd.func55, Tryd.ntmps55
  go_wp2_with fail
  go_ret2
  exact ⟨rfl, rfl⟩

end Go.Proofs.YtofhlnpbflkdlabDoor

/-
  New.
-/
namespace Go.Proofs.YtofhlnpbflkdlabDoor
open Go.RowKit

theorem Kept.undrew {F : Nat → Prop} {w w' : World} (h : Kept F w.drew w') : Kept F w w' := ⟨h.os, h.tape, h.output, h.size, h.block⟩

/-- make of a row of ints, as an equation. -/
theorem make_eq (n : Nat) (hn : n ≤ 1000000) : ∃ ob : Obj, (∀ W : World, (Instr.makeSlice 22 (.int .i64 (n : Nat)) (.int .i64 (n : Nat))).run Tryd.prog W = .ok (.slice (some ⟨W.heap.size, 0, none⟩) n n) (W.alloc ob)) ∧
    ∀ (W : World) (B : Nat), B ≤ W.heap.size → NRow B (W.alloc ob) (.slice (some ⟨W.heap.size, 0, none⟩) n n) (List.replicate n 0) := by
  obtain ⟨i0, hi, hz0, hz1, hz2⟩ := info_parts Tryd.infoN
  have hr := fun W : World => run_make (P := Tryd.prog) W 22 3 i0 (natV 0) Tryd.underlying22 hi hz0 .i64 .i64 (n : Int) (n : Int) (by omega) (Int.le_refl _) (by rw [hz2]; omega) (by omega)
  refine ⟨.cells (madeCells (natV 0).cells (n * i0.size)) 3, fun W => by simpa using hr W, fun W B hB => ?_⟩
  obtain ⟨w1, hr1, ho1, hg1⟩ := run_make_full (P := Tryd.prog) W B 22 3 i0 (natV 0) 1 Tryd.underlying22 hi hz0 hz1 .i64 .i64 n (by rw [hz2]; omega) (by simp only [maxLen]; omega) hB
  have h2 := hr W
  rw [hr1] at h2
  simp only [Result.ok.injEq] at h2
  have h3 := h2.2
  simp only [Int.toNat_natCast] at h3
  rw [← h3]
  have e : (natV 0).cells = #[natV 0] := rfl
  rw [e, Nat.mul_one, toList_madeCells_one] at ho1
  unfold NRow RowE
  simpa using ho1

set_option maxHeartbeats 2000000 in
theorem new_good (w : World) (v : Value) (I : Nat → Prop) (zs : List Int) (ns : List Nat) (hs : SrcE intV w I v zs) (hg : Good zs ns) (hb : chk zs = 0) :
    Calls Tryd.prog 43 #[v] w fun e w' => (∃ d vc vs, e = .returned (.tuple #[.pointer (some ⟨d, 0, none⟩), .int .i64 0]) ∧ Dec w' d vc vs ns ∧ ∀ k, DF d vc vs k → w.heap.size ≤ k) ∧ Same w w' := by
  obtain ⟨ao, cap, rfl, hx1, hx2⟩ := id hs
  clear hx1 hx2
  have HC := check_any w _ I zs hs (by have := hg.len; have := hg.max; omega)
  rw [hb] at HC
  have HG : Hid (Good zs ns) := hg
  have HS : Hid (SrcE natV w I (.slice ao zs.length cap) ns) := hid (hs.recode hg.eq)
  have HL : Hid (zs.length = ns.length) := hg.len.symm
  have h288 : zs.length ≤ 288 := by have := hg.len; have := hg.max; omega
  have hmx : mxL ns ≤ 15 := mx_le ns 15 hg.le
  clear hs hg hb
  generalize zs.length = n at *
  go_enter Tryd.func43, Tryd.ntmps43
  go_wp2_with fail
  refine HC.mono ?_
  rintro e w2 ⟨rfl, hk⟩
  have HK : Hid (Same w w2) := hk
  clear hk HC
  have HMX := fun wx (h : Same w wx) => max_any wx _ I ns (HS.out.same h) (by have := HL.out; omega) HG.out.pos (fun x hx => by have := HG.out.le x hx; omega)
  have HRI : ∀ wx, Same w wx → Calls Tryd.prog 46 #[.slice ao n cap] wx fun e w' => ∃ a4 n4 c4, e = .returned (.slice a4 n4 c4) ∧ New wx w' (.slice a4 n4 c4) (ris ns) := fun wx h => (rising_any wx _ I ns (HS.out.same h) (by have := HL.out; omega)).mono (by
    rintro e w' ⟨v', rfl, hn⟩
    obtain ⟨a4, c4, rfl, _⟩ := hn.row.shape
    exact ⟨a4, _, c4, rfl, hn⟩)
  obtain ⟨mx, hmxe⟩ : ∃ mx, mx = mxL ns := ⟨_, rfl⟩
  rw [← hmxe] at HMX hmx
  have HME : Hid (mx = mxL ns) := hmxe
  clear hmxe
  obtain ⟨ob, hmk, hmr⟩ := make_eq mx (by omega)
  have HMR : Hid (∀ (W : World) (B : Nat), B ≤ W.heap.size → NRow B (W.alloc ob) (.slice (some ⟨W.heap.size, 0, none⟩) mx mx) (List.replicate mx 0)) := hmr
  clear hmr
  go_upto_region 4 with fail
  go_cut [5] from 13 to 19 (fun z wx => ∃ d vs gc, z = .pointer (some ⟨d, 0, none⟩) ∧ Hid (Same w wx) ∧ Hid (wx.cell? ⟨d, 0, none⟩ = some (.slice (some ⟨gc, 0, none⟩) mx mx) ∧ wx.cell? ⟨d, 1, none⟩ = some vs ∧ NRow w.heap.size wx (.slice (some ⟨gc, 0, none⟩) mx mx) (List.replicate mx 0) ∧ NRow w.heap.size wx vs (ris ns) ∧ w.heap.size ≤ d ∧ w.heap.size ≤ gc ∧ gc ≠ d ∧ vs.ownBlock ≠ some gc ∧ vs.ownBlock ≠ some d))
  case first =>
    go_region_with (first | (go_at_call 54; refine (HMX _ (by first | exact HK.out | exact HK.out.drewN _ | exact HK.out.drew)).mono ?_; rintro e w3 ⟨rfl, rfl⟩) | (go_at_call 46; refine (HRI _ (by first | exact HK.out | exact HK.out.drewN _ | exact HK.out.drew | exact (HK.out.alloc _).drew)).mono ?_; rintro e w4 ⟨a4, n4, c4, rfl, hn4⟩))
    · go_wp2_with fail
      go_meet
      have hsz := HK.out.size
      have hs4 : w2.heap.size + 1 ≤ w4.heap.size := by have := hn4.same.size; simpa using this
      have k4 : Same (w2.alloc ob) w4 := Kept.undrew hn4.same
      have k5 : Same w4 (w4.alloc (.cells #[.slice (some ⟨w2.heap.size, 0, none⟩) mx mx, .slice a4 n4 c4] 94)) := (Kept.refl _ w4).alloc _
      refine ⟨w4.heap.size, _, w2.heap.size, rfl, hid (Same.trans (HK.out.alloc _) (Same.trans k4 k5)), hid ⟨by simp, by simp, RowE.same (RowE.same (HMR.out w2 w.heap.size hsz) k4) k5, RowE.same (RowE.base hn4.row (by show w.heap.size ≤ (w2.alloc ob).heap.size; simp; omega)) k5, by omega, by omega, by omega, ?_, ?_⟩⟩
      · intro e
        have h : (w2.alloc ob).heap.size ≤ w2.heap.size := hn4.row.ge e
        rw [World.size_alloc] at h
        omega
      · intro e
        have := hn4.row.lt e
        omega
    · go_wp2_with fail
      go_meet
      have hsz := HK.out.size
      have hs4 : w2.heap.size ≤ w4.heap.size := hn4.same.size
      have k4 : Same w2 w4 := Kept.undrew hn4.same
      have k5 : Same w4 ((w4.alloc ob).alloc (.cells #[.slice (some ⟨w4.heap.size, 0, none⟩) mx mx, .slice a4 n4 c4] 94)) := ((Kept.refl _ w4).alloc _).alloc _
      have k6 : Same (w4.alloc ob) ((w4.alloc ob).alloc (.cells #[.slice (some ⟨w4.heap.size, 0, none⟩) mx mx, .slice a4 n4 c4] 94)) := (Kept.refl _ _).alloc _
      have hz : (w4.alloc ob).heap.size = w4.heap.size + 1 := by simp
      refine ⟨w4.heap.size + 1, _, w4.heap.size, rfl, hid (Same.trans HK.out (Same.trans k4 k5)), hid ⟨?_, ?_, RowE.same (HMR.out w4 w.heap.size (by omega)) k6, RowE.same (RowE.base hn4.row (by show w.heap.size ≤ w2.heap.size; omega)) k5, by omega, by omega, by omega, ?_, ?_⟩⟩
      · rw [← hz]; simp
      · rw [← hz]; simp
      · intro e
        have := hn4.row.lt e
        omega
      · intro e
        have := hn4.row.lt e
        omega
  case rest =>
    obtain ⟨d, vs, gc, rfl, HKc, HFc⟩ := hcut
    clear HK HMX HRI hmk HMR
    obtain ⟨as', caps, hvs, _⟩ := HFc.out.2.2.2.1.shape
    subst hvs
    have c0 := HFc.out.1
    have c1 := HFc.out.2.1
    have hls : (ris ns).length ≤ 288 := Nat.le_trans (ris_length ns) (by have := HL.out; omega)
    generalize hrl : (ris ns).length = rl at *
    have HRL : Hid ((ris ns).length = rl) := hrl
    clear hrl
    go_wp2_with fail
    go_loopg [25] rl (fun q zk wr => ∃ (k : Nat), rl - k ≤ q ∧ k ≤ rl ∧ zk = .int .i64 (k : Nat) ∧ Hid (NRow w.heap.size wr (.slice (some ⟨gc, 0, none⟩) mx mx) (cntTo ns k)) ∧ Hid (Kept (· = gc) wc wr))
    case atStart => exact ⟨0, by omega, by omega, rfl, hid (by rw [cntTo_zero, ← HME.out]; exact HFc.out.2.2.1), Kept.refl _ _⟩
    case round =>
      obtain ⟨k, hq, hk, rfl, HR, HKr⟩ := hrel
      have hf := HFc.out
      have d0 : wr.cell? ⟨d, 0, none⟩ = some (.slice (some ⟨gc, 0, none⟩) mx mx) := HKr.out.cell c0 (fun e => hf.2.2.2.2.2.2.1 e.symm)
      have d1 : wr.cell? ⟨d, 1, none⟩ = some (.slice as' rl caps) := HKr.out.cell c1 (fun e => hf.2.2.2.2.2.2.1 e.symm)
      have hrs : NRow w.heap.size wr (.slice as' rl caps) (ris ns) := hf.2.2.2.1.kept HKr.out (fun j hj e => hf.2.2.2.2.2.2.2.1 (by rw [hj, e]))
      by_cases hlt : k < rl
      · have hkl : k < (ris ns).length := by have := HRL.out; omega
        obtain ⟨b4, o4, cap4', e4, _, _, c4⟩ := (SrcE.ofRow hrs).get k hkl
        simp only [Value.slice.injEq] at e4
        obtain ⟨rfl, hxe, rfl⟩ := e4
        clear hxe
        obtain ⟨s, hs⟩ : ∃ s, s = (ris ns)[k] := ⟨_, rfl⟩
        rw [← hs] at c4
        unfold natV at c4
        have hsr : s < ns.length ∧ key ns s ≠ 0 := mem_ris.1 (by rw [hs]; exact List.getElem_mem _)
        have hsn : s < n := by have := HL.out; omega
        have hsrc : SrcE natV wr (fun j => I j ∧ j < w.heap.size) (.slice ao n cap) ns := SrcE.kept (SrcE.same HS.out.low HKc.out) HKr.out (fun j hj _ e => by have := hf.2.2.2.2.2.1; omega)
        obtain ⟨b, o, cap', e5, _, _, c5⟩ := hsrc.get s hsr.1
        simp only [Value.slice.injEq] at e5
        obtain ⟨rfl, hxe, rfl⟩ := e5
        clear hxe
        rw [← key_get hsr.1] at c5
        unfold natV at c5
        obtain ⟨l, hl⟩ : ∃ l, l = key ns s := ⟨_, rfl⟩
        rw [← hl] at c5
        have hl15 : l ≤ mx := by rw [hl, HME.out]; exact key_le_mx ns s
        have hl0 : 0 < l := by omega
        have hsub : ((l : Int) - 1) = ((l - 1 : Nat) : Int) := by omega
        have hlc : l - 1 < (cntTo ns k).length := by rw [cntTo_length, ← HME.out]; omega
        obtain ⟨y, hy⟩ : ∃ y, y = (cntTo ns k)[l - 1] := ⟨_, rfl⟩
        have cy : wr.cell? ⟨gc, l - 1, none⟩ = some (.int .i64 (y : Nat)) := by rw [hy]; exact HR.out.cell (l - 1) hlc
        have fy := HR.out.frozen (l - 1)
        have hyl : y ≤ 288 := by
          rw [hy]
          simp only [cntTo, List.getElem_map, List.getElem_range]
          refine Nat.le_trans List.countP_le_length ?_
          rw [List.length_take]
          have := HRL.out; omega
        have HR6 : Hid (NRow w.heap.size (wr.setCell ⟨gc, l - 1, none⟩ (.int .i64 ((y : Int) + 1))) (.slice (some ⟨gc, 0, none⟩) mx mx) (cntTo ns (k + 1))) := hid (by
          have h := HR.out.lay (l - 1) (y + 1)
          subst hl hs hy
          rw [cntTo_succ ns k hkl hlc] at h
          exact h)
        clear hs hsr hsrc hl hy hlc hrs hf
        go_wp2_with fail
        go_region
        all_goals
          go_wp2_with fail
          go_roundg (gk - 1)
          case measure => omega
          case rel => exact ⟨k + 1, by omega, by omega, by go_num, HR6, (HKr.out.setCell ⟨gc, l - 1, none⟩ _ (.inl rfl)).drew⟩
      · have hk2 : k = rl := by omega
        subst hk2
        have HD : Hid (Dec wr d (.slice (some ⟨gc, 0, none⟩) mx mx) (.slice as' k caps) ns) := hid (by
          refine ⟨d0, d1, ?_, RowE.base hrs (Nat.zero_le _)⟩
          have h := HR.out
          rw [← HRL.out, cntTo_all] at h
          exact RowE.base h (Nat.zero_le _))
        have HDF : Hid (∀ j, DF d (.slice (some ⟨gc, 0, none⟩) mx mx) (.slice as' k caps) j → w.heap.size ≤ j) := hid (by
          rintro j (rfl | h | h)
          · exact hf.2.2.2.2.1
          · simp [Value.ownBlock] at h; have := hf.2.2.2.2.2.1; omega
          · exact hf.2.2.2.1.ge h)
        have HKK : Hid (Same w wr) := hid (HKc.out.then HKr.out (fun j hj e => by have := hf.2.2.2.2.2.1; omega))
        clear hf hrs
        go_wp2_with fail
        first
          | go_ret2
          | (go_quiet (fail); go_wp2_with fail; go_ret2)
        exact ⟨⟨_, _, _, rfl, HD.out, HDF.out⟩, HKK.out⟩

end Go.Proofs.YtofhlnpbflkdlabDoor

/-
  The program's take, readStep.
-/
namespace Go.Proofs.YtofhlnpbflkdlabDoor
open Go.RowKit

/-- Numbers of so many bits each, one behind the other. -/
def numsAt (ls : List Nat) (c : Nat) : List Nat → List Nat
  | [] => []
  | n :: r => numAt ls c n :: numsAt ls (c + n) r

theorem numsAt_snoc (ls : List Nat) (c : Nat) (ws : List Nat) (n : Nat) : numsAt ls c (ws ++ [n]) = numsAt ls c ws ++ [numAt ls (c + ws.sum) n] := by
  induction ws generalizing c with
  | nil => simp [numsAt]
  | cons a r ih => simp only [List.cons_append, numsAt, ih, List.sum_cons, Nat.add_assoc]

theorem numsAt_length (ls : List Nat) (c : Nat) (ws : List Nat) : (numsAt ls c ws).length = ws.length := by
  induction ws generalizing c with
  | nil => rfl
  | cons a r ih => simp [numsAt, ih]

theorem sum_take_le (ws : List Nat) (i : Nat) (hi : i < ws.length) : (ws.take i).sum + ws[i] ≤ ws.sum := by
  have h : (ws.take (i + 1)).sum + (ws.drop (i + 1)).sum = ws.sum := by rw [← List.sum_append, List.take_append_drop]
  rw [List.take_succ_eq_append_getElem hi, List.sum_append] at h
  simp at h
  omega

/-- The reader's number as one of the bits. -/
theorem num_bits (bs : List Nat) (hb : ∀ b ∈ bs, b < 256) (c n : Nat) (h : c + n ≤ 8 * bs.length) : n256 bs / 2 ^ c % 2 ^ n = numAt (ofBytes bs) c n := (left_n2 bs hb c n h).symm

/-- An answer of take: the numbers, or that there are too few bits. -/
def TakeA (w w' : World) (p : Nat) (s : Value) (bs : List Nat) (c : Nat) (ws : List Nat) (e : Ending) : Prop :=
  (c + ws.sum ≤ 8 * bs.length ∧ (∃ v', e = .returned (.tuple #[v', .int .i64 0]) ∧ NRow w.heap.size w' v' (numsAt (ofBytes bs) c ws)) ∧ St w' p s bs (c + ws.sum)) ∨
  (8 * bs.length < c + ws.sum ∧ e = .returned (.tuple #[.slice none 0 0, .int .i64 10]) ∧ ∃ c', c ≤ c' ∧ c' ≤ 8 * bs.length ∧ St w' p s bs c')

set_option maxRecDepth 100000 in
set_option maxHeartbeats 2000000 in
theorem ltake_any (w : World) (p c : Nat) (s : Value) (bs : List Nat) (v : Value) (I : Nat → Prop) (ws : List Nat) (hst : St w p s bs c) (hc : c ≤ 8 * bs.length) (hlen : bs.length ≤ 100000000) (hs : SrcE natV w I v ws) (hI : ∀ k, I k → k ≠ p) (hws : ∀ n ∈ ws, n ≤ 32) (hwl : ws.length ≤ 1000) :
    Calls Tryd.prog 27 #[.pointer (some ⟨p, 0, none⟩), v] w fun e w' => TakeA w w' p s bs c ws e ∧ Kept (· = p) w w' := by
  obtain ⟨ao, cap, rfl, hx1, hx2⟩ := id hs
  clear hx1 hx2
  have HS : Hid (SrcE natV w I (.slice ao ws.length cap) ws) := hs
  have HST : Hid (St w p s bs c) := hst
  have HP : Hid (∀ k, Fp p s k → k < w.heap.size) := hid (fun k h => hst.fp_lt h)
  have HWS : Hid (∀ n ∈ ws, n ≤ 32) := hws
  have HI : Hid (∀ k, I k → k ≠ p) := hI
  have HB : Hid (∀ b ∈ bs, b < 256) := hst.byte
  clear hs hst hws hI
  go_enter Tryd.func27, Tryd.ntmps27
  go_wp2_with fail
  go_loopg [6, 8, 9, 10, 13] ws.length (fun q zo _ _ _ zi wr => ∃ (i : Nat), ws.length - i ≤ q ∧ i ≤ ws.length ∧ zi = .int .i64 (i : Nat) ∧ Hid (c + (ws.take i).sum ≤ 8 * bs.length) ∧ Hid (NRow w.heap.size wr zo (numsAt (ofBytes bs) c (ws.take i))) ∧ Hid (St wr p s bs (c + (ws.take i).sum)) ∧ Hid (Kept (· = p) w wr))
  case atStart => exact ⟨0, by omega, by omega, rfl, hid (by simpa using hc), hid (by simpa [numsAt] using RowE.nil), hid (by simpa using HST.out), Kept.refl _ _⟩
  case round =>
    clear HST
    obtain ⟨i, hq, hi, rfl, HC, HV, HST, HK⟩ := hrel
    have hsz := HK.out.size
    by_cases hlt : i < ws.length
    · obtain ⟨b, o, cap', e, hIb, _, cx⟩ := (HS.out.kept HK.out (fun k h _ => HI.out k h)).get i hlt
      simp only [Value.slice.injEq] at e
      obtain ⟨rfl, hxe, rfl⟩ := e
      clear hxe hIb
      obtain ⟨n, hn⟩ : ∃ n, n = ws[i] := ⟨_, rfl⟩
      rw [← hn] at cx
      unfold natV at cx
      have hn32 : n ≤ 32 := by rw [hn]; exact HWS.out _ (List.getElem_mem _)
      obtain ⟨ci, hci⟩ : ∃ ci, ci = c + (ws.take i).sum := ⟨_, rfl⟩
      rw [← hci] at HC HST
      have hci0 : c ≤ ci := by omega
      have HSUM : Hid (c + (ws.take (i + 1)).sum = ci + n) := hid (by rw [List.take_succ_eq_append_getElem hlt, List.sum_append, hci, hn]; simp; omega)
      have HTOT : Hid (ci + n ≤ c + ws.sum) := hid (by have := sum_take_le ws i hlt; rw [hci, hn]; omega)
      have HNUM : Hid (numsAt (ofBytes bs) c (ws.take (i + 1)) = numsAt (ofBytes bs) c (ws.take i) ++ [numAt (ofBytes bs) ci n]) := hid (by rw [List.take_succ_eq_append_getElem hlt, numsAt_snoc, hci, hn])
      have hnl : (numsAt (ofBytes bs) c (ws.take i)).length ≤ 1000 := by rw [numsAt_length]; simp; omega
      clear hn hci
      by_cases hfit : ci + n ≤ 8 * bs.length
      · have HT := take_good p ci n s bs wr HST.out (by omega) hn32 hfit
        rw [num_bits bs HB.out ci n hfit] at HT
        obtain ⟨x, hx⟩ : ∃ x, x = numAt (ofBytes bs) ci n := ⟨_, rfl⟩
        have hxl : x < 2 ^ 32 := by
          rw [hx]
          exact Nat.lt_of_lt_of_le (numAt_lt _ (ofBytes_lt bs) _ _) (Nat.pow_le_pow_right (by decide) hn32)
        rw [← hx] at HT HNUM
        have hxw : wrap64 (x : Int) = (x : Int) := by unfold wrap64; omega
        have HF : Hid (ci + n ≤ 8 * bs.length) := hfit
        clear hx hfit
        go_wp2_with fail
        refine HT.mono ?_
        rintro e w2 ⟨rfl, hs2, hk2⟩
        have HST2 : Hid (St w2 p s bs (ci + n)) := hs2
        have HK2 : Hid (Kept (· = p) w w2) := hid (Kept.trans HK.out hk2 (fun _ _ h => h) (fun _ _ h => h))
        have HV2 : Hid (NRow w.heap.size w2 u6 (numsAt (ofBytes bs) c (ws.take i))) := hid (HV.out.kept hk2 (fun k e h => by have h1 := HV.out.ge e; have h2 := HP.out p (.inl rfl); omega))
        have hsz2 := HK2.out.size
        clear hs2 hk2 HT
        go_wp2_with (at_builtin; refine wpList_append_e _ natV natV_one w.heap.size 22 3 (natV 0) 8 Tryd.underlying22 Tryd.infoN rfl (by decide) rfl (.tmp 26) (.tmp 29) rfl u6 _ rfl (World.ownsRow.alloc HV2.out _) ⟨w2.heap.size, 0, none⟩ 1 1 [x] rfl rfl (cellsAt_new _ _ _) (by simp; omega) (by simp; omega) ?_; intro v5 w5 hr5 hg5; have HV5 : Hid (NRow w.heap.size w5 v5 (numsAt (ofBytes bs) c (ws.take (i + 1)))) := hid (by rw [HNUM.out]; exact hr5); have HK5' : Hid (Kept (fun k => u6.ownBlock = some k) w2 w5) := hid (((Kept.refl _ w2).alloc _).grown hg5 (fun _ e => .inl e)); have HST5 : Hid (St w5 p s bs (c + (ws.take (i + 1)).sum)) := hid (by rw [HSUM.out]; exact HST2.out.kept HK5'.out (fun k h e => by have h1 := HV2.out.ge e; have h2 := HP.out k h; omega)); have HK5 : Hid (Kept (· = p) w w5) := hid (Kept.trans HK2.out HK5'.out (fun _ _ h => h) (fun k hk e => by have := HV2.out.ge e; omega)); clear hr5 hg5)
        go_roundg (gk - 1)
        case measure => omega
        case rel => exact ⟨i + 1, by omega, by omega, by go_num, hid (by rw [HSUM.out]; exact HF.out), HV5, HST5, HK5⟩
      · have HT := take_end p ci n s bs wr HST.out HC.out (by omega) hn32 (by omega)
        have HE : Hid (8 * bs.length < c + ws.sum) := hid (by have := HTOT.out; omega)
        clear hfit
        go_wp2_with fail
        refine HT.mono ?_
        rintro e w2 ⟨rfl, m, hw2⟩
        subst hw2
        clear HT
        go_wp2_with fail
        go_ret2
        exact ⟨.inr ⟨HE.out, rfl, ci, hci0, HC.out, HST.out.drewN _⟩, HK.out.drewN _⟩
    · have hil : i = ws.length := by omega
      subst hil
      have e1 : ws.take ws.length = ws := List.take_of_length_le (Nat.le_refl _)
      have HC2 : Hid (c + ws.sum ≤ 8 * bs.length) := hid (by have h := HC.out; rw [e1] at h; exact h)
      have HV2 : Hid (NRow w.heap.size wr u6 (numsAt (ofBytes bs) c ws)) := hid (by have h := HV.out; rw [e1] at h; exact h)
      have HST2 : Hid (St wr p s bs (c + ws.sum)) := hid (by have h := HST.out; rw [e1] at h; exact h)
      clear HC HV HST e1
      go_wp2_with fail
      go_ret2
      exact ⟨.inl ⟨HC2.out, ⟨_, rfl, HV2.out⟩, HST2.out⟩, HK.out⟩

theorem rest_lt2 (bs : List Nat) (hb : ∀ b ∈ bs, b < 256) (c : Nat) (hc : c ≤ 8 * bs.length) : n256 bs / 2 ^ c < 2 ^ (8 * bs.length - c) := by
  have h := n256_lt bs hb
  rw [pow8] at h
  refine (Nat.div_lt_iff_lt_mul (Nat.two_pow_pos c)).2 ?_
  rw [← Nat.pow_add, show 8 * bs.length - c + c = 8 * bs.length by omega]
  exact h

/-- The decoder's Next as a function of the bits. -/
theorem lnext_any (w : World) (d : Nat) (vc vs : Value) (zs : List Int) (ns : List Nat) (p c : Nat) (s : Value) (bs : List Nat) (hg : Good zs ns) (hd : Dec w d vc vs ns) (hs : St w p s bs c) (hc : c ≤ 8 * bs.length) (hlen : bs.length ≤ 100000000) (hdis : ∀ k, DF d vc vs k → ¬ Fp p s k) :
    Calls Tryd.prog 55 #[.pointer (some ⟨d, 0, none⟩), .pointer (some ⟨p, 0, none⟩)] w fun e w' => e = .returned (.tuple #[.int .i64 ((nextF ns ((ofBytes bs).drop c)).1 : Nat), .int .i64 ((nextF ns ((ofBytes bs).drop c)).2.2 : Nat)]) ∧ St w' p s bs (c + (nextF ns ((ofBytes bs).drop c)).2.1) ∧ c + (nextF ns ((ofBytes bs).drop c)).2.1 ≤ 8 * bs.length ∧ Kept (· = p) w w' := by
  refine (next_any w d vc vs ns p c s bs hd (mx_le ns 15 hg.le) hg.max hs hc hlen hdis).mono ?_
  rintro e w' ⟨⟨sym, long, er, rfl, hans, hst⟩, hk⟩
  have hr := nextF_is ns ((ofBytes bs).drop c)
  obtain ⟨h1, h2, h3⟩ := next_same hg bs hs.byte c hc (rest_lt2 bs hs.byte c hc) hans hr
  rw [h1, h2, h3]
  refine ⟨rfl, hst, ?_, hk⟩
  rcases hans with ⟨_, _, _, h, _⟩ | ⟨_, _, h, _, _⟩ | ⟨_, _, h, _, _⟩
  · omega
  · omega
  · omega

/-- An answer of readStep. -/
def RStepA (w' : World) (p : Nat) (s : Value) (bs : List Nat) (c : Nat) (e : Ending) : Except Nat ((Nat × Nat) × Nat) → Prop
  | .error er => e = .returned (.tuple #[.agg #[.int .i64 0, .int .i64 0], .int .i64 (er : Nat)]) ∧ er ≠ 0 ∧ ∃ c', c ≤ c' ∧ c' ≤ 8 * bs.length ∧ St w' p s bs c'
  | .ok (x, c') => e = .returned (.tuple #[.agg #[.int .i64 (x.1 : Nat), .int .i64 (x.2 : Nat)], .int .i64 0]) ∧ c' ≤ 8 * bs.length ∧ St w' p s bs c'

end Go.Proofs.YtofhlnpbflkdlabDoor

/-
  The program's readStep.
-/
namespace Go.Proofs.YtofhlnpbflkdlabDoor
open Go.RowKit

set_option maxRecDepth 100000 in
set_option maxHeartbeats 2000000 in
theorem lstep_any (w : World) (d : Nat) (vc vs : Value) (zs : List Int) (ns : List Nat) (p c : Nat) (s : Value) (bs : List Nat) (hg : Good zs ns) (hd : Dec w d vc vs ns) (hs : St w p s bs c) (hc : c ≤ 8 * bs.length) (hlen : bs.length ≤ 100000000) (hdis : ∀ k, DF d vc vs k → ¬ Fp p s k) :
    Calls Tryd.prog 44 #[.pointer (some ⟨p, 0, none⟩), .pointer (some ⟨d, 0, none⟩)] w fun e w' => RStepA w' p s bs c e (stepF ns (ofBytes bs) c) ∧ Kept (· = p) w w' := by
  obtain ⟨W, hW⟩ : ∃ W, W = w.alloc (.cells #[.int .i64 0, .int .i64 0] 35) := ⟨_, rfl⟩
  have hk0 : Same w W := by rw [hW]; exact (Kept.refl _ w).alloc _
  have HN := lnext_any W d vc vs zs ns p c s bs hg (hd.kept hk0 (fun _ _ f => f)) (hs.kept hk0 (fun _ _ f => f)) hc hlen hdis
  have HK0 : Hid (Same w W) := hk0
  have HBK : Hid (Blk W w.heap.size #[.int .i64 0, .int .i64 0] 35) := hid (by rw [hW]; exact Blk.new w _ _)
  have hpw : p < w.heap.size := hs.lt
  have HB : Hid (∀ b ∈ bs, b < 256) := hs.byte
  obtain ⟨sym, long, er, hnf⟩ : ∃ a b c', nextF ns ((ofBytes bs).drop c) = (a, b, c') := ⟨_, _, _, rfl⟩
  rw [hnf] at HN
  simp only at HN
  have HF : Hid (stepF ns (ofBytes bs) c = if er ≠ 0 then .error er else if 8 * bs.length < c + long + xbits sym then .error 10 else .ok ((sym, numAt (ofBytes bs) (c + long) (xbits sym)), c + long + xbits sym)) := hid (by
    unfold stepF
    rw [hnf, ofBytes_length])
  have HSH := fun W2 => shape_any W2 (sym : Int)
  rw [widthM_nat] at HSH
  have hx7 := xbits_le sym
  obtain ⟨xb, hxb⟩ : ∃ x, x = xbits sym := ⟨_, rfl⟩
  rw [← hxb] at HF HSH hx7
  have HP : Hid (∀ k, Fp p s k → k < w.heap.size) := hid (fun k h => hs.fp_lt h)
  clear hd hs hdis hnf hk0 hxb
  go_enter Tryd.func44, Tryd.ntmps44
  go_wp2_with fail
  rw [← hW]
  clear hW
  refine HN.mono ?_
  rintro e w2 ⟨rfl, hs2, hc2, hk2⟩
  have HST2 : Hid (St w2 p s bs (c + long)) := hs2
  have HK2 : Hid (Kept (· = p) W w2) := hk2
  have HB2 : Hid (Blk w2 w.heap.size #[.int .i64 0, .int .i64 0] 35) := hid (HBK.out.kept hk2 (by omega))
  have f1 : w2.frozen? ⟨w.heap.size, 0, none⟩ = false := HB2.out.frozen 0
  have f2 : w2.frozen? ⟨w.heap.size, 1, none⟩ = false := HB2.out.frozen 1
  have c1 : w2.cell? ⟨w.heap.size, 0, none⟩ = some (.int .i64 0) := HB2.out.cell 0
  have c2 : w2.cell? ⟨w.heap.size, 1, none⟩ = some (.int .i64 0) := HB2.out.cell 1
  have hcl : c ≤ c + long := by omega
  have HKW : Hid (Kept (· = p) w w2) := hid (Kept.trans (HK0.out.mono (fun _ _ f => f.elim)) hk2 (fun _ _ h => h) (fun _ _ h => h))
  clear hs2 hk2 HN
  by_cases her : er = 0
  · have hed : ((er : Int) != 0) = false := by simp; omega
    have HER : Hid (er = 0) := her
    have her0 : (er : Int) = 0 := by omega
    clear her
    go_wp2_with fail
    refine (HSH _).mono ?_
    rintro e w3 ⟨rfl, hw3⟩
    subst hw3
    clear HSH
    by_cases hfit : c + long + xb ≤ 8 * bs.length
    · have HT := take_good p (c + long) xb s bs w3 HST2.out (by omega) (by omega) hfit
      rw [num_bits bs HB.out _ xb hfit] at HT
      obtain ⟨x, hx⟩ : ∃ x, x = numAt (ofBytes bs) (c + long) xb := ⟨_, rfl⟩
      have hxl : x < 2 ^ 7 := by
        rw [hx]
        exact Nat.lt_of_lt_of_le (numAt_lt _ (ofBytes_lt bs) _ _) (Nat.pow_le_pow_right (by decide) hx7)
      rw [← hx] at HT HF
      have hxw : wrap64 (x : Int) = (x : Int) := by unfold wrap64; omega
      have HE : Hid (stepF ns (ofBytes bs) c = .ok ((sym, x), c + long + xb)) := hid (by rw [HF.out, HER.out, if_neg (by simp), if_neg (by omega)])
      have HFIT : Hid (c + long + xb ≤ 8 * bs.length) := hfit
      clear hx hfit
      go_wp2_with fail
      refine HT.mono ?_
      rintro e w4 ⟨rfl, hs4, hk4⟩
      have HST4 : Hid (St w4 p s bs (c + long + xb)) := hs4
      have HB4 : Hid (Blk w4 w.heap.size #[.int .i64 0, .int .i64 0] 35) := hid (HB2.out.kept hk4 (by omega))
      have HK4 : Hid (Kept (· = p) w w4) := hid (Kept.trans HKW.out hk4 (fun _ _ h => h) (fun _ _ h => h))
      have f3 : w4.frozen? ⟨w.heap.size, 0, none⟩ = false := HB4.out.frozen 0
      have f4 : w4.frozen? ⟨w.heap.size, 1, none⟩ = false := HB4.out.frozen 1
      have c3 : w4.cell? ⟨w.heap.size, 0, none⟩ = some (.int .i64 0) := HB4.out.cell 0
      have c4 : w4.cell? ⟨w.heap.size, 1, none⟩ = some (.int .i64 0) := HB4.out.cell 1
      clear hs4 hk4 HT f1 f2 c1 c2
      go_wp2_with fail
      have HKF : Hid (Kept (· = w.heap.size) w4 ((w4.setCell ⟨w.heap.size, 0, none⟩ (.int .i64 (sym : Nat))).setCell ⟨w.heap.size, 1, none⟩ (.int .i64 (x : Nat)))) := hid (((Kept.refl (· = w.heap.size) w4).setCell ⟨w.heap.size, 0, none⟩ _ (.inl rfl)).setCell ⟨w.heap.size, 1, none⟩ _ (.inl rfl))
      refine bodyPost_ret (v := .tuple #[.agg #[.int .i64 (sym : Nat), .int .i64 (x : Nat)], .int .i64 0]) (by simp [results, Tryd.results44, go_sem, c3, c4]) rfl ?_
      refine ⟨?_, Kept.trans HK4.out HKF.out (fun _ _ h => h) (fun k hk e => by omega)⟩
      rw [HE.out]
      exact ⟨rfl, HFIT.out, HST4.out.kept HKF.out (fun k h e => by have := HP.out k h; omega)⟩
    · have HT := take_end p (c + long) xb s bs w3 HST2.out hc2 (by omega) (by omega) (by omega)
      have HE : Hid (stepF ns (ofBytes bs) c = .error 10) := hid (by rw [HF.out, HER.out, if_neg (by simp), if_pos (by omega)])
      clear hfit
      go_wp2_with fail
      refine HT.mono ?_
      rintro e w4 ⟨rfl, m, hw4⟩
      subst hw4
      clear HT
      go_wp2_with fail
      have HKF : Hid (Kept (· = w.heap.size) w3 (((w3.drewN m).setCell ⟨w.heap.size, 0, none⟩ (.int .i64 0)).setCell ⟨w.heap.size, 1, none⟩ (.int .i64 0))) := hid ((((Kept.refl (· = w.heap.size) w3).drewN m).setCell ⟨w.heap.size, 0, none⟩ _ (.inl rfl)).setCell ⟨w.heap.size, 1, none⟩ _ (.inl rfl))
      refine bodyPost_ret (v := .tuple #[.agg #[.int .i64 0, .int .i64 0], .int .i64 10]) (by simp [results, Tryd.results44, go_sem, c1, c2]) rfl ?_
      refine ⟨?_, Kept.trans HKW.out HKF.out (fun _ _ h => h) (fun k hk e => by omega)⟩
      rw [HE.out]
      exact ⟨rfl, by decide, c + long, hcl, hc2, HST2.out.kept HKF.out (fun k h e => by have := HP.out k h; omega)⟩
  · have hed : ((er : Int) != 0) = true := by simp; omega
    have HE : Hid (stepF ns (ofBytes bs) c = .error er) := hid (by rw [HF.out, if_pos her])
    have HER : Hid (er ≠ 0) := her
    clear her
    go_wp2_with fail
    have HKF : Hid (Kept (· = w.heap.size) w2 ((w2.setCell ⟨w.heap.size, 0, none⟩ (.int .i64 0)).setCell ⟨w.heap.size, 1, none⟩ (.int .i64 0))) := hid (((Kept.refl (· = w.heap.size) w2).setCell ⟨w.heap.size, 0, none⟩ _ (.inl rfl)).setCell ⟨w.heap.size, 1, none⟩ _ (.inl rfl))
    refine bodyPost_ret (v := .tuple #[.agg #[.int .i64 0, .int .i64 0], .int .i64 (er : Nat)]) (by simp [results, Tryd.results44, go_sem, c1, c2]) rfl ?_
    refine ⟨?_, Kept.trans HKW.out HKF.out (fun _ _ h => h) (fun k hk e => by omega)⟩
    rw [HE.out]
    exact ⟨rfl, HER.out, c + long, hcl, hc2, HST2.out.kept HKF.out (fun k h e => by have := HP.out k h; omega)⟩

end Go.Proofs.YtofhlnpbflkdlabDoor
