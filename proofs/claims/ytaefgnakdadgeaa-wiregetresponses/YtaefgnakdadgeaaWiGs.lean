/-
  Layer 19: bytes are just one response, or are refused.
-/
import Derived.Test.YtaefgnakdadgeaaWiSm
import Derived.Test.YtaefgnakdadgeaaRefR
import Derived.Test.YtaefgnakdadgeaaLendX
namespace Go.Proofs.Ytaefgnakdadgeaa
open Go.RowKit

theorem IsRow.nil19 {w : World} {a : Option Addr} {len cap : Nat} {zs : List Int} (h : IsRow .u8 w a len cap zs) : a = none → cap = 0 := by
  intro e
  rcases h with ⟨_, h2, h3, _⟩ | ⟨x, h1, _⟩
  · omega
  · rw [e] at h1; cases h1

/-- What was lent comes in. -/
theorem lent_in19r {w' : World} {g : Nat} {cs : List Nat} (h : Row w' (.slice (some ⟨g, 0, none⟩) (cs.length + 2) (cs.length + 2)) (cs ++ [165, 90])) (hl : cs.length ≤ 2000000) (hb : ∀ b ∈ cs, b < 256) : In19 w' (some ⟨g, 0, none⟩) cs.length (cs.length + 2) cs := by
  have h9 : Row w' (.slice (some ⟨g, 0, none⟩) (cs ++ [165, 90]).length (cs.length + 2)) (cs ++ [165, 90]) := by simpa using h
  have hs := Src.ofRow h9
  have h2 := hs.head19 (n := cs.length) (by simp) (cs.length + 2)
  rw [List.take_left] at h2
  exact ⟨h2.mono (fun k hk => by have := h9.lt hk; exact this), by omega, hl, hb⟩

set_option maxRecDepth 100000 in
set_option maxHeartbeats 1000000 in
theorem wireGetResponses_all (a : Option Addr) (n cap : Nat) (zs : List Int) (W : World) (hz : IsRow .u8 W a n cap zs) :
    Calls Try.prog 6 #[.slice a n cap] W fun e W' => e = .returned (.bool true) ∧ Below W.heap.size W W' := by
  obtain ⟨bs, hb⟩ := hz.bs19
  have HNIL := hid hz.nil19
  clear hz
  by_cases hlong : 1048576 < n
  · have d1 : decide ((1048576 : Int) < (n : Int)) = true := by simp; omega
    have d2 : decide (1048576 < n) = true := by simp; omega
    clear hb hlong
    go_enter Try.func6, Try.ntmps6
    go_wp2_with fail
    go_ret
    exact ⟨rfl, Below.refl _ _⟩
  · have d1 : decide ((1048576 : Int) < (n : Int)) = false := by simp; omega
    have d2 : decide (1048576 < n) = false := by simp; omega
    have hi := hb.in19 (by omega)
    have HI := hid hi
    have HB : Hid (n = bs.length ∧ bs.length ≤ 1048576 ∧ ∀ b ∈ bs, b < 256) := hid ⟨hb.len, by have := hb.len; omega, hb.byte⟩
    have HLE := lend_any W (.slice a n cap) _ bs hb.src (by have := hb.len; omega)
    obtain ⟨s, hs⟩ : ∃ q, q = grS bs := ⟨_, rfl⟩
    obtain ⟨L, hL⟩ : ∃ q, q = grL bs := ⟨_, rfl⟩
    obtain ⟨E, hE⟩ : ∃ E, E = grE bs := ⟨_, rfl⟩
    have HLS : Hid (L.length ≤ 9223372036854775807) := hid (by
      rw [hL]
      cases h9 : gotR bs with
      | none => rw [(grE_none h9).2.2]; decide
      | some x =>
        rw [(grE_some (s := x.1) (L := x.2) h9).2.2]
        have h8 := (gotR_join (s := x.1) (L := x.2) h9 HB.out.2.2).1
        have h7 := (tooL_false (rerr_zero h8).2.2.2.1).1
        omega)
    have HG : Hid (∀ w a n cap, In19 w a n cap bs → Calls Try.prog 22 #[.slice a n cap] w fun e w' => ∃ ao n c, e = .returned (.tuple #[.agg (rsV s (.slice ao n c)), .int .i64 (E : Nat)]) ∧ RowC w.heap.size 9 1 nsE w' (.slice ao n c) L ∧ Same w w') := hid (fun w a n cap h => by rw [hs, hE, hL]; exact getres_any w a n cap bs h)
    have HG2 : Hid (∀ w, In19 w a n cap bs → Calls Try.prog 23 #[.slice a n cap] w fun e w' => ∃ ao n c, e = .returned (.tuple #[.agg (rsV s (.slice ao n c)), .int .i64 (E : Nat)]) ∧ RowC w.heap.size 9 1 nsE w' (.slice ao n c) L ∧ Same w w') := hid (fun w h => by rw [hs, hE, hL]; exact rgetres19 w a n cap bs h HNIL.out)
    clear hb hlong hi hs hE hL
    go_enter Try.func6, Try.ntmps6
    go_wp2_with fail
    refine HLE.mono ?_
    rintro e w1 ⟨g, rfl, hrow, hk1, hg⟩
    have HROW := hid hrow
    have HK1 : Hid (Same W w1) := hid hk1
    have HGN := hid hg
    obtain ⟨m, hm⟩ : ∃ m, m = bs.length := ⟨_, rfl⟩
    have HM := hid hm
    have HC1 := HG.out w1 _ _ _ (lent_in19r hrow (by have := HB.out.2.1; omega) HB.out.2.2)
    rw [← hm] at HC1 ⊢
    unfold rsV at HC1
    clear hrow hk1 hg hm HLE
    go_wp2_with fail
    refine HC1.mono ?_
    rintro e w2 ⟨ra, rn, rc, rfl, hrr, hk2⟩
    have hrn : rn = L.length := by
      obtain ⟨_, _, e9, _⟩ := hrr.shape
      simp only [Value.slice.injEq] at e9
      exact e9.2.1
    obtain ⟨W3, hW3⟩ : ∃ X, X = w2.alloc (.cells #[.int .i64 s.c, .int .i64 s.x, .int .i64 s.a, .int .i64 s.z, .string s.d, .slice ra rn rc, .int .i64 s.b, .int .i64 s.e] 40) := ⟨_, rfl⟩
    obtain ⟨rb, hrb⟩ : ∃ b, b = w2.heap.size := ⟨_, rfl⟩
    have hk23 : Same w2 W3 := by rw [hW3]; exact (Kept.refl _ _).alloc _
    have HK3 := hid (Same.trans HK1.out (Same.trans hk2 hk23))
    have HR3 : Hid (Ob W3 rb 40 (s.cs (.slice ra rn rc))) := hid (by rw [hW3, hrb]; exact obR w2 s _)
    have HRR3 := hid (hrr.kept hk23 (fun _ _ f => f))
    have hrow3 := HROW.out.kept (Same.trans hk2 hk23) (fun _ _ f => f)
    have HGR : Hid (g ≠ rb ∧ g < w1.heap.size ∧ rn = L.length) := hid (by
      have h1 : g < w1.heap.size := HROW.out.lt rfl
      have h2 := hk2.size
      exact ⟨by omega, h1, hrn⟩)
    have HBK := keepBack_any W3 g (.slice a n cap) _ bs hrow3 (HI.out.src.kept HK3.out (fun _ _ _ f => f)) (by have := HB.out.2.1; omega) HB.out.2.2
    rw [← HM.out] at HBK
    clear hk2 hk23 hrow3 HC1 hrr hrn
    go_upto_region 5 with fail
    rw [← hrb, ← hW3]
    clear hrb hW3
    go_wp2_with fail
    refine HBK.mono ?_
    rintro e w4 ⟨rfl, hk4⟩
    have HK4 := hid (Same.then HK3.out hk4 (fun x hx e => by have := HGN.out; omega))
    have HR4 := hid (HR3.out.kept hk4 (fun e => HGR.out.1 e.symm))
    have HRR4 := hid (HRR3.out.kept hk4 (fun k e f => by have h1 := HRR3.out.ge e; have h2 := HGR.out; omega))
    have HC2 := HG2.out w4 (HI.out.kept HK4.out)
    unfold rsV at HC2
    clear hk4 HBK
    go_wp2_with fail
    refine HC2.mono ?_
    rintro e w5 ⟨qa, qn, qc, rfl, hrq, hk5⟩
    have hqn : qn = rn := by
      obtain ⟨_, _, e9, _⟩ := hrq.shape
      simp only [Value.slice.injEq] at e9
      rw [e9.2.1, HGR.out.2.2]
    subst hqn
    obtain ⟨W6, hW6⟩ : ∃ X, X = w5.alloc (.cells #[.int .i64 s.c, .int .i64 s.x, .int .i64 s.a, .int .i64 s.z, .string s.d, .slice qa qn qc, .int .i64 s.b, .int .i64 s.e] 40) := ⟨_, rfl⟩
    obtain ⟨sb', hsb⟩ : ∃ b, b = w5.heap.size := ⟨_, rfl⟩
    have hk56 : Same w5 W6 := by rw [hW6]; exact (Kept.refl _ _).alloc _
    have HK6 := hid (Same.trans HK4.out (Same.trans hk5 hk56))
    have HR6 := hid (HR4.out.kept (Same.trans hk5 hk56) (fun f => f))
    have HRR6 := hid (HRR4.out.kept (Same.trans hk5 hk56) (fun _ _ f => f))
    have HRQ6 := hid (hrq.kept hk56 (fun _ _ f => f))
    have HS6 : Hid (Ob W6 sb' 40 (s.cs (.slice qa qn qc))) := hid (by rw [hW6, hsb]; exact obR w5 s _)
    clear hk5 hk56 HC2 hrq
    go_upto_region 7 with fail
    rw [← hsb, ← hW6]
    clear hsb hW6
    go_wp2_with fail
    refine (awake19 W6).mono ?_
    rintro e w7 ⟨rfl, hk7⟩
    have HK7 := hid (Same.trans HK6.out hk7)
    obtain ⟨c0, c1, c2, c3, c4, c5, c6, c7⟩ := (HR6.out.kept hk7 (fun f => f)).eightR
    obtain ⟨d0, d1', d2', d3, d4, d5, d6, d7⟩ := (HS6.out.kept hk7 (fun f => f)).eightR
    have HSA := rsame19 w7 s ra qa qn rc qc L _ _ (SrcC.ofRow nsE_ok (HRR6.out.kept hk7 (fun _ _ f => f))) (SrcC.ofRow nsE_ok (HRQ6.out.kept hk7 (fun _ _ f => f))) (by rw [HGR.out.2.2]; exact HLS.out)
    unfold rsV at HSA
    clear hk7
    go_wp2_with fail
    refine HSA.mono ?_
    rintro e w8 ⟨rfl, hk8⟩
    have HK8 := hid (Same.trans HK7.out hk8)
    clear hk8 HSA
    go_wp2_with fail
    go_ret
    exact ⟨rfl, below19 HK8.out⟩

end Go.Proofs.Ytaefgnakdadgeaa
