/-
  The walk of the law BitsReads.
-/
import Derived.Test.YtlbolkifdghhnaaStep
namespace Go.Proofs.Ytlbolkifdghhnaa
open Go.RowKit

/-- A reader and a row beside one another, both made since w0. -/
structure Sep (w0 w : World) (q : Nat) (t : Value) (bs : List Nat) (c : Nat) (vl : Value) (ls : List Nat) : Prop where
  rd : St w q t bs c
  row : Row w vl ls
  aq : ∀ k, Fp q t k → w0.heap.size ≤ k
  al : ∀ k, vl.ownBlock = some k → w0.heap.size ≤ k
  dis : ∀ k, vl.ownBlock = some k → ¬ Fp q t k
  kept : Kept (Above w0.heap.size) w0 w

section
variable {w0 w w' : World} {q c c' : Nat} {t t' vl vl' : Value} {bs bs' ls ls' : List Nat}

theorem Sep.fresh (h : Sep w0 w q t bs c vl ls) (hk : Kept (fun _ => False) w w') : Sep w0 w' q t bs c vl ls :=
  ⟨h.rd.kept hk (fun _ _ e => e), h.row.kept hk (fun _ _ e => e), h.aq, h.al, h.dis, h.kept.trans hk (fun _ _ e => e) (fun _ _ e => e.elim)⟩

theorem Sep.other {g : Nat} (h : Sep w0 w q t bs c vl ls) (hk : Kept (· = g) w w') (h0 : w0.heap.size ≤ g) (h1 : ¬ Fp q t g) (h2 : vl.ownBlock ≠ some g) : Sep w0 w' q t bs c vl ls :=
  ⟨h.rd.kept hk (fun k hk1 e => h1 (by rw [← e]; exact hk1)), h.row.kept hk (fun k hk1 e => h2 (by rw [← e]; exact hk1)), h.aq, h.al, h.dis, h.kept.trans hk (fun _ _ e => e) (fun x _ e => by unfold Above; omega)⟩

theorem Sep.more (h : Sep w0 w q t bs c vl ls) (hr : St w' q t' bs' c') (hk : Kept (Fp q t) w w') (hg : Grew w t t') : Sep w0 w' q t' bs' c' vl ls := by
  have hsz := h.kept.size
  refine ⟨hr, h.row.kept hk h.dis, ?_, h.al, ?_, h.kept.trans hk (fun _ _ e => e) (fun x _ e => h.aq x e)⟩
  · intro k hk2
    rcases hk2 with e | e
    · exact h.aq k (.inl e)
    · rcases hg with e' | e'
      · exact h.aq k (.inr (by rw [← e', e]))
      · have := e' k e; omega
  · intro k hk1 hk2
    rcases hk2 with e | e
    · exact h.dis k hk1 (.inl e)
    · rcases hg with e' | e'
      · exact h.dis k hk1 (.inr (by rw [← e', e]))
      · have := e' k e; have := h.row.lt hk1; omega

theorem Sep.step (h : Sep w0 w q t bs c vl ls) (hr : St w' q t bs c') (hk : Kept (· = q) w w') : Sep w0 w' q t bs c' vl ls :=
  h.more hr (hk.mono (fun _ _ e => .inl e)) (.inl rfl)

theorem Sep.grow (h : Sep w0 w q t bs c vl ls) (hrow : Row w' vl' ls') (hg : w.grownBy w' vl.ownBlock) (ho : vl'.ownBlock = vl.ownBlock ∨ vl'.ownBlock = some w.heap.size) : Sep w0 w' q t bs c vl' ls' := by
  have hsz := h.kept.size
  have hk : Kept (fun k => vl.ownBlock = some k) w w' := (Kept.refl _ w).grown hg (fun k e => .inl e)
  refine ⟨h.rd.kept hk (fun k h1 h2 => h.dis k h2 h1), hrow, h.aq, ?_, ?_, h.kept.trans hk (fun _ _ e => e) (fun x _ e => h.al x e)⟩
  · intro k hk
    rcases ho with e | e
    · exact h.al k (by rw [← e, hk])
    · rw [e] at hk; injection hk with hk; omega
  · intro k hk h1
    rcases ho with e | e
    · exact h.dis k (by rw [← e, hk]) h1
    · rw [e] at hk; injection hk with hk; have := h.rd.fp_lt h1; omega

end

/-- A lent slice can be read. -/
theorem src_lent {w : World} {g : Nat} {cs : List Nat} (h : Row w (.slice (some ⟨g, 0, none⟩) (cs.length + 2) (cs.length + 2)) (cs ++ [165, 90])) : Src w (· = g) (.slice (some ⟨g, 0, none⟩) cs.length (cs.length + 2)) cs := by
  have hr3 : Row w (.slice (some ⟨g, 0, none⟩) (cs ++ [165, 90]).length (cs.length + 2)) (cs ++ [165, 90]) := by simpa using h
  refine ⟨_, _, rfl, fun _ => ⟨g, 0, rfl, rfl, fun j hj => ?_⟩⟩
  rw [Nat.zero_add, Row.cell hr3 j (by simp; omega), List.getElem_append_left hj]

theorem row_lt {w : World} {g n : Nat} {cs : List Nat} (h : Row w (.slice (some ⟨g, 0, none⟩) n n) cs) : g < w.heap.size := Row.lt h rfl

theorem row_nil {w : World} {v : Value} {cs : List Nat} (h : Row w v cs) : ∀ n c, v = .slice none n c → n = 0 ∧ c = 0 := by
  intro n c e
  rcases h.2 with ⟨e1, _⟩ | ⟨_, _, _, e1, _⟩
  · rw [e1] at e; simp at e; omega
  · rw [e1] at e; simp at e

/-- The cells of a slice of calls on a reader. -/
def ROpsAt (w : World) (B : Nat) (a : Option Addr) (len : Nat) (K N : Nat → Int) (A : Nat → Option Addr) (C : Nat → Nat) (BS : Nat → List Nat) : Prop :=
  ∀ j, j < len → (∀ x ∈ BS j, x < 256) ∧ Src w (fun k => k < B) (.slice (A j) (BS j).length (C j)) (BS j) ∧ ∃ b o, a = some ⟨b, o, none⟩ ∧ b < B ∧ w.cell? ⟨b, o + j * 3, none⟩ = some (.int .i64 (K j)) ∧ w.cell? ⟨b, o + j * 3 + 1, none⟩ = some (.int .i64 (N j)) ∧ w.cell? ⟨b, o + j * 3 + 2, none⟩ = some (.slice (A j) (BS j).length (C j))

theorem ROpsAt.kept {w w' : World} {B : Nat} {a : Option Addr} {len : Nat} {K N : Nat → Int} {A : Nat → Option Addr} {C : Nat → Nat} {BS : Nat → List Nat} (h : ROpsAt w B a len K N A C BS) (hk : Kept (Above B) w w') : ROpsAt w' B a len K N A C BS := by
  intro j hj
  obtain ⟨hx, hs, b, o, ha, hb, h1, h2, h3⟩ := h j hj
  have hn : ¬ Above B b := by unfold Above; omega
  exact ⟨hx, hs.kept hk (fun k h1 _ h2 => by unfold Above at h2; omega), b, o, ha, hb, hk.cell h1 hn, hk.cell h2 hn, hk.cell h3 hn⟩

set_option maxHeartbeats 4000000 in
set_option maxRecDepth 100000 in
theorem reads_walk (w : World) (a0 : Option Addr) (cap0 : Nat) (bs0 : List Nat) (hsrc : Src w (fun k => k < w.heap.size) (.slice a0 bs0.length cap0) bs0) (hb0 : ∀ b ∈ bs0, b < 256) (hlen0 : bs0.length ≤ 1048576)
    (a : Option Addr) (len cap : Nat) (K N : Nat → Int) (A : Nat → Option Addr) (C : Nat → Nat) (BS : Nat → List Nat) (hlen : len ≤ 5000) (hops : ROpsAt w w.heap.size a len K N A C BS) (hmax : ∀ j, j < len → (BS j).length ≤ maxLen) :
    Calls Try.prog 4 #[.slice a0 bs0.length cap0, .slice a len cap] w fun e w' => e = .returned (.bool true) ∧ Below w.heap.size w w' := by
  have hd1 : decide (1048576 < (bs0.length : Int)) = false := by simp; omega
  have hd2 : decide (5000 < (len : Int)) = false := by simp; omega
  have HS : Hid (Src w (fun k => k < w.heap.size) (.slice a0 bs0.length cap0) bs0) := hsrc
  have HB0 : Hid (∀ b ∈ bs0, b < 256) := hb0
  have HO : Hid (ROpsAt w w.heap.size a len K N A C BS) := hops
  have HM : Hid (∀ j, j < len → (BS j).length ≤ maxLen) := hmax
  clear hsrc hb0 hops hmax
  go_enter Try.func4, Try.ntmps4
  go_wp2_with fail
  go_loopg [5] len (fun k x wr => ∃ j : Nat, j ≤ len ∧ len - j ≤ k ∧ x = .int .i64 (j : Nat) ∧ (∀ t, t < j → (BS t).length ≤ 1048576) ∧ w = wr)
  case atStart => exact ⟨0, by omega, by omega, rfl, by omega, rfl⟩
  case round =>
    obtain ⟨j, hj, hjk, rfl, hall, rfl⟩ := hrel
    have HALL : Hid (∀ t, t < j → (BS t).length ≤ 1048576) := hall
    clear hall
    by_cases hlt : j < len
    · obtain ⟨_, _, b, o, rfl, _, c0, c1, c2⟩ := HO.out j hlt
      have hmx := HM.out j hlt
      obtain ⟨M, hM⟩ : ∃ M, M = (BS j).length := ⟨_, rfl⟩
      rw [← hM] at c2 hmx
      unfold maxLen at hmx
      have HMM : Hid (M = (BS j).length) := hM
      clear c0 c1 hM
      by_cases hbig : 1048576 < M
      · have hd3 : decide (1048576 < (M : Int)) = true := by simp; omega
        go_wp2_with fail
        go_ret
        exact ⟨rfl, Below.refl _ _⟩
      · have hd3 : decide (1048576 < (M : Int)) = false := by simp; omega
        go_wp2_with fail
        go_roundg (gk - 1)
        case measure => omega
        case rel =>
          refine ⟨j + 1, by omega, by omega, by go_num, ?_, rfl⟩
          intro t ht
          by_cases e : t = j
          · subst e; have := HMM.out; omega
          · exact HALL.out t (by omega)
    · have hjl : j = len := by omega
      subst hjl
      go_wp2_with fail
      refine (lend_any w _ _ bs0 HS.out (by omega)).mono ?_
      rintro e w2 ⟨g, rfl, hrow, hk2, hg2⟩
      have HROW : Hid (Row w2 (.slice (some ⟨g, 0, none⟩) (bs0.length + 2) (bs0.length + 2)) (bs0 ++ [165, 90])) := hrow
      have HK2 : Hid (Kept (fun _ => False) w w2) := hk2
      have hgl := row_lt hrow
      clear hrow hk2
      go_wp2_with fail
      refine (newReader_any _ _ bs0 _ (src_lent HROW.out) (by omega) HB0.out).mono ?_
      rintro e w3 ⟨q, t, rfl, hr3, hk3, hf3⟩
      have HROW3 : Hid (Row w3 (.slice (some ⟨g, 0, none⟩) (bs0.length + 2) (bs0.length + 2)) (bs0 ++ [165, 90])) := HROW.out.kept hk3 (fun _ _ e => e)
      have HK3 : Hid (Kept (fun _ => False) w w3) := HK2.out.trans hk3 (fun _ _ e => e) (fun _ _ e => e)
      have HR3 : Hid (St w3 q t bs0 0) := hr3
      have HF3 : Hid (∀ k, Fp q t k → w2.heap.size ≤ k) := hf3
      clear hr3 hk3 hf3 HROW
      go_wp2_with fail
      refine (keepBack_any w3 g _ _ bs0 HROW3.out (HS.out.kept HK3.out (fun _ _ _ e => e)) (by omega) HB0.out).mono ?_
      rintro e w4 ⟨rfl, hk4⟩
      have HR4 : Hid (St w4 q t bs0 0) := HR3.out.kept hk4 (fun k h1 h2 => by have := HF3.out k h1; omega)
      have HK4 : Hid (Kept (Above w.heap.size) w w4) := HK3.out.trans hk4 (fun _ _ e => e.elim) (fun x _ e => by unfold Above; omega)
      clear hk4 HROW3 HR3 HK3
      go_wp2_with fail
      refine (refOf_any w4 _ _ bs0 (HS.out.kept HK4.out (fun k h1 _ h2 => by unfold Above at h2; omega)) (by omega) HB0.out).mono ?_
      rintro e w5 ⟨vl, rfl, hg5⟩
      have S5 : Hid (Sep w w5 q t bs0 0 vl (ofBytes bs0)) := by
        obtain ⟨h1, h2⟩ := hg5.ofNil rfl
        have hz2 := HK2.out.size
        have hz4 := HK4.out.size
        refine ⟨HR4.out.kept h1 (fun _ _ e => e), hg5.row, fun k hk => ?_, fun k hk => ?_, fun k h3 h4 => ?_, HK4.out.trans h1 (fun _ _ e => e) (fun _ _ e => e.elim)⟩
        · have := HF3.out k hk; omega
        · have := h2 k hk; omega
        · have := h2 k h3; have := HR4.out.fp_lt h4; omega
      clear hg5 HR4 HK4 HF3 HK2
      go_wp2_with fail
      go_loopg [8, 9, 10] j (fun k x8 x9 x10 wr => ∃ (i c : Nat) (t : Value) (bs ls : List Nat), i ≤ j ∧ j - i ≤ k ∧ x10 = .int .i64 (i : Nat) ∧ x9 = .int .i64 (c : Nat) ∧ c ≤ ls.length ∧ bs.length ≤ (i + 1) * 1048576 ∧ ls = ofBytes bs ∧ Sep w wr q t bs c x8 ls)
      case atStart => exact ⟨0, 0, t, bs0, _, by omega, by omega, rfl, rfl, by omega, by omega, rfl, S5.out⟩
      case round =>
        obtain ⟨i, c, t, bs, ls, hi, hik, rfl, rfl, hcl, hbl, hlsb, hS⟩ := hrel
        have S0 : Hid (Sep w wr q t bs c u8 ls) := hS
        have HLS : Hid (ls = ofBytes bs) := hlsb
        have hll : ls.length = 8 * bs.length := by rw [hlsb, ofBytes_length]
        have HLL : Hid (ls.length = 8 * bs.length) := hll
        have hlb : ls.length ≤ 100000000000 := by omega
        have hbb : bs.length ≤ 10000000000 := by omega
        clear hlsb hll S5
        by_cases hlt : i < j
        · obtain ⟨hx8, hsrc, b, o, rfl, _, c0, c1, c2⟩ := HO.out.kept hS.kept i hlt
          obtain ⟨cs, hcs⟩ : ∃ cs, cs = BS i := ⟨_, rfl⟩
          obtain ⟨ab, hab⟩ : ∃ ab, ab = A i := ⟨_, rfl⟩
          obtain ⟨cb, hcb⟩ : ∃ cb, cb = C i := ⟨_, rfl⟩
          obtain ⟨n, hn⟩ : ∃ n, n = N i := ⟨_, rfl⟩
          obtain ⟨κ, hκ⟩ : ∃ κ, κ = K i := ⟨_, rfl⟩
          have hcl5 : cs.length ≤ 1048576 := by rw [hcs]; exact HALL.out i hlt
          rw [← hcs] at hx8 hsrc c2
          rw [← hab, ← hcb] at hsrc c2
          rw [← hκ] at c0
          rw [← hn] at c1
          have HX8 : Hid (∀ x ∈ cs, x < 256) := hx8
          have HSRC : Hid (Src wr (fun k => k < w.heap.size) (.slice ab cs.length cb) cs) := hsrc
          have HLT : Hid (∀ k, Fp q t k → k < wr.heap.size) := fun k hk => hS.rd.fp_lt hk
          have HLV0 : Hid (∀ k, u8.ownBlock = some k → k < wr.heap.size) := fun k hk => hS.row.lt hk
          have hzw : w.heap.size ≤ wr.heap.size := hS.kept.size
          have HBYTE : Hid (∀ x ∈ bs, x < 256) := hS.rd.byte
          obtain ⟨ao, cp, hu, _⟩ := hS.row.shape
          clear hx8 hsrc hcs hab hcb hn hκ
          by_cases h4 : κ = 4
          · subst h4
            have S1 : Hid (Sep w (wr.alloc (.cells #[.int .i64 4, .int .i64 n, .slice ab cs.length cb] 43)) q t bs c u8 ls) := hS.fresh ((Kept.refl _ wr).alloc _)
            have HK1 : Hid (Kept (fun _ => False) wr (wr.alloc (.cells #[.int .i64 4, .int .i64 n, .slice ab cs.length cb] 43))) := (Kept.refl _ wr).alloc _
            clear hS hu S0
            go_wp2_with fail
            refine (lend_any _ _ _ cs (HSRC.out.kept HK1.out (fun _ _ _ e => e)) (by omega)).mono ?_
            rintro e w2 ⟨g, rfl, hrow, hk2, hg2⟩
            have hgs : wr.heap.size < g := by simp at hg2; omega
            have hgl := row_lt hrow
            have S2 : Hid (Sep w w2 q t bs c u8 ls) := S1.out.fresh hk2
            have HROW : Hid (Row w2 (.slice (some ⟨g, 0, none⟩) (cs.length + 2) (cs.length + 2)) (cs ++ [165, 90])) := hrow
            have HSRC2 : Hid (Src w2 (fun k => k < w.heap.size) (.slice ab cs.length cb) cs) := (HSRC.out.kept HK1.out (fun _ _ _ e => e)).kept hk2 (fun _ _ _ e => e)
            have HOB2 : Hid (w2.cell? ⟨wr.heap.size, 0, none⟩ = some (.int .i64 4) ∧ w2.cell? ⟨wr.heap.size, 1, none⟩ = some (.int .i64 n) ∧ w2.cell? ⟨wr.heap.size, 2, none⟩ = some (.slice ab cs.length cb)) := ⟨hk2.cell (by simp) (fun e => e), hk2.cell (by simp) (fun e => e), hk2.cell (by simp) (fun e => e)⟩
            clear hrow hk2 hg2 S1 HK1 HSRC
            go_wp2_with fail
            refine (more_any w2 q c t bs S2.out.rd _ ⟨g, 0, none⟩ cs.length (cs.length + 2) cs (src_lent HROW.out) HX8.out (by omega)).mono ?_
            rintro e w3 ⟨rfl, t3, hr3, hk3, hg3⟩
            have S3 : Hid (Sep w w3 q t3 (bs ++ cs) c u8 ls) := S2.out.more hr3 hk3 hg3
            have HROW3 : Hid (Row w3 (.slice (some ⟨g, 0, none⟩) (cs.length + 2) (cs.length + 2)) (cs ++ [165, 90])) := HROW.out.kept hk3 (fun k h1 h2 => by simp [Value.ownBlock] at h1; have := HLT.out k h2; omega)
            have HSRC3 : Hid (Src w3 (fun k => k < w.heap.size) (.slice ab cs.length cb) cs) := HSRC2.out.kept hk3 (fun k h1 _ h2 => by have := S2.out.aq k h2; omega)
            have hobn : ¬ Fp q t wr.heap.size := fun e => by have := HLT.out _ e; omega
            have e30 := hk3.cell HOB2.out.1 hobn
            have e31 := hk3.cell HOB2.out.2.1 hobn
            have e32 := hk3.cell HOB2.out.2.2 hobn
            have HG3 : Hid (¬ Fp q t3 g) := by
              intro e
              rcases e with e | e
              · have := HLT.out q (.inl rfl); omega
              · rcases hg3 with e' | e'
                · rw [e'] at e; have := HLT.out g (.inr e); omega
                · have := e' g e; omega
            have HOBT : Hid (¬ Fp q t3 wr.heap.size) := by
              intro e
              rcases e with e | e
              · have := HLT.out q (.inl rfl); omega
              · rcases hg3 with e' | e'
                · rw [e'] at e; have := HLT.out _ (.inr e); omega
                · have := e' _ e; omega
            clear hr3 hk3 hg3 HROW HSRC2 hobn HOB2
            go_wp2_with fail
            refine (keepBack_any w3 g _ _ cs HROW3.out HSRC3.out (by omega) HX8.out).mono ?_
            rintro e w4 ⟨rfl, hk4⟩
            have S4 : Hid (Sep w w4 q t3 (bs ++ cs) c u8 ls) := S3.out.other hk4 (by omega) HG3.out (fun e => by have := HLV0.out g e; omega)
            have HSRC4 : Hid (Src w4 (fun k => k < w.heap.size) (.slice ab cs.length cb) cs) := HSRC3.out.kept hk4 (fun k h1 _ h2 => by omega)
            have hobg : ¬ wr.heap.size = g := by omega
            have e40 := hk4.cell e30 hobg
            have e41 := hk4.cell e31 hobg
            have e42 := hk4.cell e32 hobg
            clear hk4 HROW3 HSRC3 e30 e31 e32 S3 S2
            go_wp2_with fail
            refine (refOf_any w4 _ _ cs HSRC4.out (by omega) HX8.out).mono ?_
            rintro e w5 ⟨v5, rfl, hg5⟩
            obtain ⟨hk5, ho5⟩ := hg5.ofNil rfl
            have S5 : Hid (Sep w w5 q t3 (bs ++ cs) c u8 ls) := S4.out.fresh hk5
            have HROW5 : Hid (Row w5 v5 (ofBytes cs)) := hg5.row
            have HE5 : Hid (w5.cell? ⟨wr.heap.size, 0, none⟩ = some (.int .i64 4) ∧ w5.cell? ⟨wr.heap.size, 1, none⟩ = some (.int .i64 n) ∧ w5.cell? ⟨wr.heap.size, 2, none⟩ = some (.slice ab cs.length cb)) := ⟨hk5.cell e40 (fun e => e), hk5.cell e41 (fun e => e), hk5.cell e42 (fun e => e)⟩
            have HLN : Hid (ls.length + (ofBytes cs).length ≤ 1000000000000) := by show _ ≤ _; rw [ofBytes_length]; omega
            clear hg5 hk5 ho5 e40 e41 e42 S4 HSRC4
            go_wp2_with (at_builtin; refine wpList_append_src _ rfl (.tmp 79) (.tmp 82) rfl u8 ls rfl S5.out.row _ v5 (ofBytes cs) rfl (row_nil HROW5.out) (Src.ofRow HROW5.out) HLN.out ?_)
            intro v6 w6 hrow6 hgr6 hv6
            have S6 : Hid (Sep w w6 q t3 (bs ++ cs) c v6 (ls ++ ofBytes cs)) := S5.out.grow hrow6 hgr6 hv6
            have hkx : Kept (fun k => u8.ownBlock = some k) w5 w6 := (Kept.refl _ w5).grown hgr6 (fun k e => .inl e)
            have hobv : ¬ u8.ownBlock = some wr.heap.size := fun e => by have := HLV0.out _ e; omega
            have e60 := hkx.cell HE5.out.1 hobv
            have e61 := hkx.cell HE5.out.2.1 hobv
            have e62 := hkx.cell HE5.out.2.2 hobv
            obtain ⟨ao6, cp6, hu6, _⟩ := hrow6.shape
            obtain ⟨LV, hLV⟩ : ∃ LV, LV = (ls ++ ofBytes cs).length := ⟨_, rfl⟩
            have HLV : Hid (LV = (ls ++ ofBytes cs).length) := hLV
            rw [← hLV] at hu6
            subst hu6
            obtain ⟨bs6, hbs6⟩ : ∃ bs6, bs6 = bs ++ cs := ⟨_, rfl⟩
            obtain ⟨ls6, hls6⟩ : ∃ ls6, ls6 = ls ++ ofBytes cs := ⟨_, rfl⟩
            rw [← hbs6, ← hls6] at S6
            rw [← hls6] at HLV
            have HLS6 : Hid (ls6 = ofBytes bs6) := by show _ = _; rw [hls6, hbs6, ofBytes_append, HLS.out]
            have HLL6 : Hid (ls6.length = 8 * bs6.length) := by show _ = _; rw [HLS6.out, ofBytes_length]
            have hbl6 : bs6.length ≤ (i + 1 + 1) * 1048576 := by rw [hbs6, List.length_append]; omega
            have HCL6 : Hid (c ≤ ls6.length) := by show _ ≤ _; rw [hls6, List.length_append]; omega
            have hLVb : LV ≤ 100000000000 := by rw [HLV.out, HLL6.out]; omega
            clear hrow6 hgr6 hv6 hkx hobv S5 HROW5 HE5 HLN hLV hbs6 hls6
            go_wp2_with fail
            refine (step_any w6 q c 4 n t3 _ bs6 ls6 ab cs.length cb ⟨S6.out.rd, S6.out.row, by rw [HLS6.out]; exact ofBytes_lt _, by rw [HLS6.out]; exact ofBytes_n2 _ S6.out.rd.byte, HLL6.out, HCL6.out⟩ (by omega) (fun e => S6.out.dis q e (.inl rfl))).mono ?_
            rintro e w7 ⟨c7, rfl, hr7, hle7, hk7⟩
            have S7 : Hid (Sep w w7 q t3 bs6 c7 (.slice ao6 LV cp6) ls6) := S6.out.step hr7 hk7
            have HLE7 : Hid (c7 ≤ ls6.length) := hle7
            have hle8 : c7 ≤ LV := by rw [HLV.out]; exact hle7
            clear hr7 hk7 hle7 S6
            go_wp2_with fail
            have HLEFT := left_any q c7 t3 bs6 w7 S7.out.rd (by have := HLL6.out; have := HLE7.out; omega) (by omega)
            have hleq : ((8 * bs6.length - c7 : Nat) : Int) = (LV : Int) - (c7 : Int) := by have := HLL6.out; have := HLE7.out; have := HLV.out; omega
            rw [hleq] at HLEFT
            clear hleq
            refine HLEFT.mono ?_
            rintro e w8 ⟨rfl, m8, rfl⟩
            have S8 : Hid (Sep w (w7.drewN m8) q t3 bs6 c7 (.slice ao6 LV cp6) ls6) := S7.out.fresh ((Kept.refl _ w7).drewN m8)
            clear S7 HLEFT
            go_wp2_with fail
            refine (gone_any q c7 t3 bs6 _ S8.out.rd).mono ?_
            rintro e w9 ⟨rfl, rfl⟩
            go_wp2_with fail
            go_roundg (gk - 1)
            case measure => omega
            case rel => exact ⟨i + 1, c7, t3, bs6, ls6, by omega, by omega, by go_num, rfl, HLE7.out, hbl6, HLS6.out, S8.out⟩
          · obtain ⟨LV, hLV⟩ : ∃ LV, LV = ls.length := ⟨_, rfl⟩
            have HLV : Hid (LV = ls.length) := hLV
            rw [← hLV] at hu
            subst hu
            have S6 : Hid (Sep w (wr.alloc (.cells #[.int .i64 κ, .int .i64 n, .slice ab cs.length cb] 43)) q t bs c (.slice ao LV cp) ls) := hS.fresh ((Kept.refl _ wr).alloc _)
            have hLVb : LV ≤ 100000000000 := by omega
            clear hS S0 HSRC hLV
            go_wp2_with fail
            refine (step_any _ q c κ n t _ bs ls ab cs.length cb ⟨S6.out.rd, S6.out.row, by rw [HLS.out]; exact ofBytes_lt _, by rw [HLS.out]; exact ofBytes_n2 _ S6.out.rd.byte, HLL.out, hcl⟩ (by omega) (fun e => S6.out.dis q e (.inl rfl))).mono ?_
            rintro e w7 ⟨c7, rfl, hr7, hle7, hk7⟩
            have S7 : Hid (Sep w w7 q t bs c7 (.slice ao LV cp) ls) := S6.out.step hr7 hk7
            have HLE7 : Hid (c7 ≤ ls.length) := hle7
            have hle8 : c7 ≤ LV := by rw [HLV.out]; exact hle7
            clear hr7 hk7 hle7 S6
            go_wp2_with fail
            have HLEFT := left_any q c7 t bs w7 S7.out.rd (by have := HLL.out; have := HLE7.out; omega) (by omega)
            have hleq : ((8 * bs.length - c7 : Nat) : Int) = (LV : Int) - (c7 : Int) := by have := HLL.out; have := HLE7.out; have := HLV.out; omega
            rw [hleq] at HLEFT
            clear hleq
            refine HLEFT.mono ?_
            rintro e w8 ⟨rfl, m8, rfl⟩
            have S8 : Hid (Sep w (w7.drewN m8) q t bs c7 (.slice ao LV cp) ls) := S7.out.fresh ((Kept.refl _ w7).drewN m8)
            clear S7 HLEFT
            go_wp2_with fail
            refine (gone_any q c7 t bs _ S8.out.rd).mono ?_
            rintro e w9 ⟨rfl, rfl⟩
            go_wp2_with fail
            go_roundg (gk - 1)
            case measure => omega
            case rel => exact ⟨i + 1, c7, t, bs, ls, by omega, by omega, by go_num, rfl, HLE7.out, Nat.le_trans hbl (Nat.mul_le_mul_right _ (Nat.le_succ _)), HLS.out, S8.out⟩
        · clear hS
          go_wp2_with fail
          refine (awake_any _).mono ?_
          rintro e w9 ⟨rfl, hb9⟩
          go_wp2_with fail
          go_ret
          exact ⟨rfl, kept_below (S0.out.fresh (below_kept hb9 _)).kept⟩

end Go.Proofs.Ytlbolkifdghhnaa
