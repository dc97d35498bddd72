/-
  The law MatchTwice.
-/
import Derived.Test.YtjebfekkaohimaaMtO
import Derived.Test.YtjebfekkaohimaaMtP
namespace Go.Proofs.Ytjebfekkaohimaa
open Go.RowKit

set_option maxRecDepth 100000 in
set_option maxHeartbeats 4000000 in
theorem mtwice_good (W : World) (I : Nat → Prop) (ao : Option Addr) (L cap : Nat) (data : List Nat) (hs : Src W I (.slice ao L cap) data) (hL : data.length = L) (hb : ∀ b ∈ data, b < 256) (h3 : 3 ≤ L) (h16 : L ≤ 8192) :
    Calls Try.prog 7 #[.slice ao L cap] W fun e w' => e = .returned (.bool true) ∧ Same W w' := by
  obtain ⟨ts, hts⟩ : ∃ ts, ts = tokM (data ++ data) (data ++ data).length 0 := ⟨_, rfl⟩
  have hll : (data ++ data).length = 2 * L := by rw [List.length_append]; omega
  have HFD : Hid (findM (data ++ data) = ts) := hid (by rw [hts]; exact findM_small (by omega))
  have HAL : Hid (allM ts = 2 * L) := hid (by rw [hts, ← hll]; have := allM_data (data ++ data) (data ++ data).length 0 (by omega) (by omega); omega)
  have HBE : Hid (beyM L ts 0 ≤ L / 258 + 3) := hid (by rw [hts, ← hL]; exact bey_all data (by omega) _ 0 (by omega) (by omega))
  have HLN : Hid (ts.length ≤ 2 * L) := hid (by rw [hts]; have := tokM_many (data := data ++ data) (f := (data ++ data).length) (i := 0); omega)
  have HTL : Hid (∀ j (hj : j < ts.length), tlen ts[j] ≤ 2 * L) := hid (fun j hj => by
    have h1 := allM_snoc ts j hj
    have h2 : allM (ts.take (j + 1)) ≤ allM ts := by
      have e : allM ts = allM (ts.take (j + 1)) + allM (ts.drop (j + 1)) := by
        conv => lhs; rw [← List.take_append_drop (j + 1) ts]
        unfold allM; rw [List.map_append, List.sum_append]
      omega
    have := HAL.out
    omega)
  have HS := hid hs
  have HL := hid hL
  have HB := hid hb
  have hne : ∀ n c, (Value.slice ao L cap) = .slice none n c → n = 0 ∧ c = 0 := fun n c e => by
    obtain ⟨ao', cap', e1, e2⟩ := hs
    injection e with e3 e4 e5
    injection e1 with e6 _ _
    obtain ⟨b, o, e7, _⟩ := e2 (by intro e9; rw [e9] at hL; simp at hL; omega)
    rw [← e6, e3] at e7
    cases e7
  have HNE := hid hne
  have b1 : decide ((L : Int) < 3) = false := by simp; omega
  have b2 : decide ((8192 : Int) < (L : Int)) = false := by simp; omega
  have hlb : L ≤ 8192 := h16
  clear hs hL hb hts hll hne h3 h16
  go_enter Try.func7, Try.ntmps7
  go_wp2_with (at_builtin; refine wpList_append_any _ rfl (.tmp 17) (.tmp 18) rfl (.slice none 0 0) [] rfl (World.ownsRow_nil W 0 5 1) I (.slice ao L cap) data rfl HNE.out HS.out (by have := HL.out; simp; omega) ?_)
  intro v1 w1 hr1 hg1 ho1
  have hk1 : Same W w1 := (Kept.refl _ W).grown hg1 (fun j e => by cases e)
  have HR1 : Hid (Row w1 v1 data) := hid (by simpa using hr1)
  have HK1 := hid hk1
  have HN1 : Hid (∀ k, v1.ownBlock = some k → W.heap.size ≤ k) := hid (fun k e => by
    rcases ho1 with h9 | h9
    · rw [h9] at e; cases e
    · rw [h9] at e; simp at e; omega)
  obtain ⟨a1, c1, hv1, _⟩ := HR1.out.shape
  obtain ⟨n1, hn1⟩ : ∃ n, n = data.length := ⟨_, rfl⟩
  rw [← hn1] at hv1
  subst hv1
  clear hr1 hg1 ho1 hk1 hn1 b1 b2
  go_wp2_with (at_builtin; refine wpList_append_any _ rfl (.tmp 20) (.tmp 21) rfl (.slice a1 n1 c1) data rfl HR1.out I (.slice ao L cap) data rfl HNE.out (HS.out.kept HK1.out (fun _ _ _ f => f)) (by have := HL.out; omega) ?_)
  intro v2 w2 hr2 hg2 ho2
  have hk2 : Same W w2 := Kept.trans HK1.out ((Kept.refl (fun j => (Value.slice a1 n1 c1).ownBlock = some j) w1).grown hg2 (fun j e => .inl e)) (fun _ _ f => f) (fun j hj e => by have := HN1.out j e; omega)
  have HK2 := hid hk2
  have HF := mfind_any w2 v2 _ (data ++ data) (Src.ofRow hr2) (fun b h => by rcases List.mem_append.1 h with h | h; exact HB.out b h; exact HB.out b h) (by rw [List.length_append]; have := HL.out; omega)
  rw [HFD.out] at HF
  obtain ⟨a2, c2, hv2, _⟩ := hr2.shape
  obtain ⟨n2, hn2⟩ : ∃ n, n = (data ++ data).length := ⟨_, rfl⟩
  rw [← hn2] at hv2
  subst hv2
  clear hr2 hg2 ho2 hk2 hn2 HR1
  go_wp2_with fail
  refine HF.mono ?_
  rintro e w3 ⟨v3, rfl, hr3, hk3⟩
  have HK3 := hid (Same.trans HK2.out hk3)
  have HR3 := hid hr3
  obtain ⟨a3, c3, hv3, hsh3, _⟩ := hr3.shape
  obtain ⟨N, hN⟩ : ∃ n, n = ts.length := ⟨_, rfl⟩
  have HN := hid hN
  rw [← hN] at hv3
  subst hv3
  have hNb : N ≤ 16384 := by have := HLN.out; omega
  have HSH := hid hsh3
  clear hr3 hk3 HF hN hsh3
  go_wp2_with fail
  go_loopg [5, 6, 7] N (fun q zs zn zi wr => ∃ (i s n : Nat), N - i ≤ q ∧ i ≤ N ∧ zi = .int .i64 (i : Nat) ∧ zs = .int .i64 (s : Nat) ∧ zn = .int .i64 (n : Nat) ∧ s ≤ 16384 ∧ n ≤ i ∧ Hid (s = allM (ts.take i)) ∧ Hid (n = beyM L (ts.take i) 0) ∧ wr = w3)
  case atStart => exact ⟨0, 0, 0, by omega, by omega, rfl, rfl, rfl, by omega, by omega, hid rfl, hid rfl, rfl⟩
  case round =>
    obtain ⟨i, s, n, hq, hi, rfl, rfl, rfl, hs16, hni, HSA, HBN, rfl⟩ := hrel
    by_cases hlt : i < N
    · have hiT : i < ts.length := by rw [← HN.out]; exact hlt
      obtain ⟨g, e1⟩ := HSH.out (by intro e; rw [e] at hiT; simp at hiT)
      subst e1
      have c1 := (TkRow.tok HR3.out i hiT).2.1
      obtain ⟨tl, htl⟩ : ∃ n : Nat, n = tlen ts[i] := ⟨_, rfl⟩
      have hmx : max 1 ts[i].len = (tl : Int) := by rw [htl]; unfold tlen; omega
      have h2L := HTL.out i hiT
      rw [← htl] at h2L
      have hsum := allM_snoc ts i hiT
      have hle : allM (ts.take (i + 1)) ≤ 2 * L := by
        have e : allM ts = allM (ts.take (i + 1)) + allM (ts.drop (i + 1)) := by
          conv => lhs; rw [← List.take_append_drop (i + 1) ts]
          unfold allM; rw [List.map_append, List.sum_append]
        have := HAL.out
        omega
      obtain ⟨s2, hs2⟩ : ∃ x, x = s + tl := ⟨_, rfl⟩
      have hadd : (s : Int) + (tl : Int) = (s2 : Int) := by omega
      have HSA2 : Hid (s2 = allM (ts.take (i + 1))) := hid (by rw [hsum, ← HSA.out, ← htl, hs2])
      have hs2b : s2 ≤ 16384 := by have := HSA2.out; omega
      have HBN2 : Hid (beyM L (ts.take (i + 1)) 0 = n + (if L < s2 then 1 else 0)) := hid (by
        rw [List.take_succ_eq_append_getElem hiT, beyM_snoc, ← HBN.out, Nat.zero_add, ← HSA.out, ← htl, hs2])
      generalize ts[i].len = len at c1 hmx
      have hm2 : (1 : Int) ≤ len ∧ len = tl ∨ len < 1 ∧ tl = 1 := by omega
      clear htl hsum hle hiT hmx hs2
      by_cases hbig : L < s2
      · have g1 : decide ((L : Int) < (s2 : Int)) = true := by simp; omega
        have g2 : decide (L < s2) = true := by simp; omega
        have HBN3 : Hid (n + 1 = beyM L (ts.take (i + 1)) 0) := hid (by rw [HBN2.out, if_pos hbig])
        clear HBN2
        rcases hm2 with ⟨hm2, rfl⟩ | ⟨hm2, rfl⟩
        all_goals
          go_wp2_with fail
          all_goals first
            | (exfalso; omega)
            | (go_roundg (gk - 1)
               case measure => omega
               case rel => exact ⟨i + 1, s2, n + 1, by omega, by omega, by go_num, by first | rfl | (congr 1; omega), by go_num, hs2b, by omega, HSA2, HBN3, rfl⟩)
      · have g1 : decide ((L : Int) < (s2 : Int)) = false := by simp; omega
        have g2 : decide (L < s2) = false := by simp; omega
        have HBN3 : Hid (n = beyM L (ts.take (i + 1)) 0) := hid (by rw [HBN2.out, if_neg hbig, Nat.add_zero])
        clear HBN2
        rcases hm2 with ⟨hm2, rfl⟩ | ⟨hm2, rfl⟩
        all_goals
          go_wp2_with fail
          all_goals first
            | (exfalso; omega)
            | (go_roundg (gk - 1)
               case measure => omega
               case rel => exact ⟨i + 1, s2, n, by omega, by omega, by go_num, by first | rfl | (congr 1; omega), by go_num, hs2b, by omega, HSA2, HBN3, rfl⟩)
    · have hiN : i = N := by omega
      have hs2 : s = 2 * L := by have h := HSA.out; rw [hiN, HN.out, List.take_length] at h; rw [h]; exact HAL.out
      have hn2 : n ≤ L / 258 + 3 := by have h := HBN.out; rw [hiN, HN.out, List.take_length] at h; rw [h]; exact HBE.out
      have hiN2 : ¬ i < N := by omega
      obtain ⟨q1, hq1⟩ : ∃ q, q = L / 129 := ⟨_, rfl⟩
      have hdv : (L : Int) / 129 = (q1 : Int) := by omega
      have hnq : decide ((n : Int) ≤ 2 * (q1 : Int) + 4) = true := by simp; omega
      have hs3 : ((s : Int) == 2 * (L : Int)) = true := by simp; omega
      have H5 := mawake_any wr
      clear hiN hq hq1 hn2 hs2
      go_wp2_with fail
      refine H5.mono ?_
      rintro e w5 ⟨rfl, hk5⟩
      have HK5 := hid (Same.trans HK3.out hk5)
      clear hk5 H5
      go_wp2_with fail
      go_ret
      exact ⟨rfl, HK5.out⟩

set_option maxHeartbeats 1000000 in
theorem mtwice_out (W : World) (ao : Option Addr) (L cap : Nat) (h : L < 3 ∨ 8192 < L) :
    Calls Try.prog 7 #[.slice ao L cap] W fun e w' => e = .returned (.bool true) ∧ Same W w' := by
  have HA := mawake_any W
  by_cases h3 : L < 3
  · have b1 : decide ((L : Int) < 3) = true := by simp; omega
    clear h h3
    go_enter Try.func7, Try.ntmps7
    go_wp2_with fail
    refine HA.mono ?_
    rintro e w1 ⟨rfl, hk⟩
    have HK := hid hk
    clear hk HA
    go_wp2_with fail
    go_ret
    exact ⟨rfl, HK.out⟩
  · have b1 : decide ((L : Int) < 3) = false := by simp; omega
    have b2 : decide ((8192 : Int) < (L : Int)) = true := by simp; omega
    clear h h3
    go_enter Try.func7, Try.ntmps7
    go_wp2_with fail
    refine HA.mono ?_
    rintro e w1 ⟨rfl, hk⟩
    have HK := hid hk
    clear hk HA
    go_wp2_with fail
    go_ret
    exact ⟨rfl, HK.out⟩

theorem matchTwice_all (a0 : Option Addr) (len0 cap0 : Nat) (z0 : List Int) (w : World) (w0 : IsRow .u8 w a0 len0 cap0 z0) :
    Calls Try.prog 7 #[.slice a0 len0 cap0] w fun e w' => e = .returned (.bool true) ∧ Below w.heap.size w w' := by
  suffices H : Calls Try.prog 7 #[.slice a0 len0 cap0] w fun e w' => e = .returned (.bool true) ∧ Same w w' from H.mono (fun e w' h => ⟨h.1, h.2.bel⟩)
  by_cases h : len0 < 3 ∨ 8192 < len0
  · exact mtwice_out w a0 len0 cap0 h
  · obtain ⟨bs, hs, hl, hb⟩ := w0.src
    exact mtwice_good w _ a0 len0 cap0 bs hs hl hb (by omega) (by omega)

end Go.Proofs.Ytjebfekkaohimaa
