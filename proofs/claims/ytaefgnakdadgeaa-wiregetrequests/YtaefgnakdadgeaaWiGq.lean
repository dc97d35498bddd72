/-
  Layer 19: bytes are just one request, or are refused.
-/
import Derived.Test.YtaefgnakdadgeaaWiLw
import Derived.Test.YtaefgnakdadgeaaRefG
import Derived.Test.YtaefgnakdadgeaaLendX
namespace Go.Proofs.Ytaefgnakdadgeaa
open Go.RowKit

/-- What was lent comes in. -/
theorem lent_in19 {w' : World} {g : Nat} {cs : List Nat} (h : Row w' (.slice (some ⟨g, 0, none⟩) (cs.length + 2) (cs.length + 2)) (cs ++ [165, 90])) (hl : cs.length ≤ 2000000) (hb : ∀ b ∈ cs, b < 256) : In19 w' (some ⟨g, 0, none⟩) cs.length (cs.length + 2) cs := by
  have h9 : Row w' (.slice (some ⟨g, 0, none⟩) (cs ++ [165, 90]).length (cs.length + 2)) (cs ++ [165, 90]) := by simpa using h
  have hs := Src.ofRow h9
  have h2 := hs.head19 (n := cs.length) (by simp) (cs.length + 2)
  rw [List.take_left] at h2
  exact ⟨h2.mono (fun k hk => by have := h9.lt hk; exact this), by omega, hl, hb⟩

set_option maxRecDepth 100000 in
set_option maxHeartbeats 1000000 in
theorem wireGetRequests_all (a : Option Addr) (n cap : Nat) (zs : List Int) (W : World) (hz : IsRow .u8 W a n cap zs) :
    Calls Try.prog 4 #[.slice a n cap] W fun e W' => e = .returned (.bool true) ∧ Below W.heap.size W W' := by
  obtain ⟨bs, hb⟩ := hz.bs19
  clear hz
  by_cases hlong : 1048576 < n
  · have d1 : decide ((1048576 : Int) < (n : Int)) = true := by simp; omega
    have d2 : decide (1048576 < n) = true := by simp; omega
    clear hb hlong
    go_enter Try.func4, Try.ntmps4
    go_wp2_with fail
    go_ret
    exact ⟨rfl, Below.refl _ _⟩
  · have d1 : decide ((1048576 : Int) < (n : Int)) = false := by simp; omega
    have d2 : decide (1048576 < n) = false := by simp; omega
    have hi := hb.in19 (by omega)
    have HI := hid hi
    have HB : Hid (n = bs.length ∧ bs.length ≤ 1048576 ∧ ∀ b ∈ bs, b < 256) := hid ⟨hb.len, by have := hb.len; omega, hb.byte⟩
    have HLE := lend_any W (.slice a n cap) _ bs hb.src (by have := hb.len; omega)
    obtain ⟨q, hq⟩ : ∃ q, q = gqV bs := ⟨_, rfl⟩
    obtain ⟨E, hE⟩ : ∃ E, E = gqE bs := ⟨_, rfl⟩
    have HG : Hid (∀ w a n cap, In19 w a n cap bs → Calls Try.prog 15 #[.slice a n cap] w fun e w' => e = .returned (.tuple #[.agg (rqV q), .int .i64 (E : Nat)]) ∧ Same w w') := hid (fun w a n cap h => by rw [hq, hE]; exact getreq_any w a n cap bs h)
    have HG2 : Hid (∀ w a n cap, In19 w a n cap bs → Calls Try.prog 17 #[.slice a n cap] w fun e w' => e = .returned (.tuple #[.agg (rqV q), .int .i64 (E : Nat)]) ∧ Same w w') := hid (fun w a n cap h => by rw [hq, hE]; exact rgetreq19 w a n cap bs h)
    clear hb hlong hi hq hE
    go_enter Try.func4, Try.ntmps4
    go_wp2_with fail
    refine HLE.mono ?_
    rintro e w1 ⟨g, rfl, hrow, hk1, hg⟩
    have HROW := hid hrow
    have HK1 : Hid (Same W w1) := hid hk1
    have HGN := hid hg
    obtain ⟨m, hm⟩ : ∃ m, m = bs.length := ⟨_, rfl⟩
    have HM := hid hm
    have HC1 := HG.out w1 _ _ _ (lent_in19 hrow (by have := HB.out.2.1; omega) HB.out.2.2)
    rw [← hm] at HC1 ⊢
    unfold rqV at HC1
    clear hrow hk1 hg hm HLE
    go_wp2_with fail
    refine HC1.mono ?_
    rintro e w2 ⟨rfl, hk2⟩
    obtain ⟨W3, hW3⟩ : ∃ X, X = w2.alloc (.cells #[.int .i64 q.k, .int .i64 q.x, .string q.a, .string q.e, .string q.d, .int .i64 q.f, .int .i64 q.m, .string q.o] 24) := ⟨_, rfl⟩
    obtain ⟨rb, hrb⟩ : ∃ b, b = w2.heap.size := ⟨_, rfl⟩
    have hk23 : Same w2 W3 := by rw [hW3]; exact (Kept.refl _ _).alloc _
    have HK3 := hid (Same.trans HK1.out (Same.trans hk2 hk23))
    have HR3 : Hid (Ob W3 rb 24 q.cs) := hid (by rw [hW3, hrb]; exact obQ w2 q)
    have hrow3 := HROW.out.kept (Same.trans hk2 hk23) (fun _ _ f => f)
    have HGR : Hid (g ≠ rb) := hid (by
      have h1 : g < w1.heap.size := HROW.out.lt rfl
      have h2 := hk2.size
      omega)
    have HBK := keepBack_any W3 g (.slice a n cap) _ bs hrow3 (HI.out.src.kept HK3.out (fun _ _ _ f => f)) (by have := HB.out.2.1; omega) HB.out.2.2
    rw [← HM.out] at HBK
    clear hk2 hk23 hrow3 HC1
    go_upto_region 5 with fail
    rw [← hrb, ← hW3]
    clear hrb hW3
    go_wp2_with fail
    refine HBK.mono ?_
    rintro e w4 ⟨rfl, hk4⟩
    have HK4 := hid (Same.then HK3.out hk4 (fun x hx e => by have := HGN.out; omega))
    have HR4 := hid (HR3.out.kept hk4 (fun e => HGR.out e.symm))
    have HC2 := HG2.out w4 a n cap (HI.out.kept HK4.out)
    unfold rqV at HC2
    clear hk4 HBK
    go_wp2_with fail
    refine HC2.mono ?_
    rintro e w5 ⟨rfl, hk5⟩
    obtain ⟨W6, hW6⟩ : ∃ X, X = w5.alloc (.cells #[.int .i64 q.k, .int .i64 q.x, .string q.a, .string q.e, .string q.d, .int .i64 q.f, .int .i64 q.m, .string q.o] 24) := ⟨_, rfl⟩
    obtain ⟨sb', hsb⟩ : ∃ b, b = w5.heap.size := ⟨_, rfl⟩
    have hk56 : Same w5 W6 := by rw [hW6]; exact (Kept.refl _ _).alloc _
    have HK6 := hid (Same.trans HK4.out (Same.trans hk5 hk56))
    have HR6 := hid (HR4.out.kept (Same.trans hk5 hk56) (fun f => f))
    have HS6 : Hid (Ob W6 sb' 24 q.cs) := hid (by rw [hW6, hsb]; exact obQ w5 q)
    clear hk5 hk56 HC2
    go_upto_region 7 with fail
    rw [← hsb, ← hW6]
    clear hsb hW6
    go_wp2_with fail
    refine (awake19 W6).mono ?_
    rintro e w7 ⟨rfl, hk7⟩
    have HK7 := hid (Same.trans HK6.out hk7)
    obtain ⟨c0, c1, c2, c3, c4, c5, c6, c7⟩ := (HR6.out.kept hk7 (fun f => f)).eight
    obtain ⟨d0, d1', d2', d3, d4, d5, d6, d7⟩ := (HS6.out.kept hk7 (fun f => f)).eight
    clear hk7
    go_wp2_with fail
    go_ret
    exact ⟨rfl, below19 HK7.out⟩

end Go.Proofs.Ytaefgnakdadgeaa
