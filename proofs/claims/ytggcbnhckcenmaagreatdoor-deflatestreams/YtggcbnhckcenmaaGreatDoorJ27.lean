/-
  Of the proof: parts InHd, InRd, InRi.
-/
import Derived.Test.YtggcbnhckcenmaaGreatDoorJ26
import Derived.Test.YtggcbnhckcenmaaGreatDoorJ25
import Derived.Test.YtggcbnhckcenmaaGreatDoorJ7

/-
  The reference's layer 5: the head of a block of kind 2, walked.
-/
namespace Go.Proofs.YtggcbnhckcenmaaGreatDoor
open Go.RowKit

set_option maxHeartbeats 1000000 in
theorem ibad_any (w : World) (h : Nat) (v : Value) (c : Nat) (vo : Value) (most e : Nat) (b : Bool) (hH : RdB w h v c vo most e) :
    Calls Tryz.prog 138 #[.pointer (some ⟨h, 0, none⟩), .bool b] w fun r w' => (∃ u, r = .returned u) ∧ RdB w' h v c vo most (badE e b) ∧ Kept (· = h) w w' := by
  have c4 := hH.cell 4
  have f4 := hH.frozen 4
  simp at c4
  have HH : Hid (RdB w h v c vo most e) := hH
  clear hH
  by_cases he : e = 0
  · subst he
    cases b with
    | false =>
      go_enter Tryz.func138, Tryz.ntmps138
      go_wp2_with fail
      go_end0
      exact ⟨⟨_, rfl⟩, by rw [badE_false]; exact HH.out, Kept.refl _ _⟩
    | true =>
      go_enter Tryz.func138, Tryz.ntmps138
      go_wp2_with fail
      go_end0
      refine ⟨⟨_, rfl⟩, ?_, (Kept.refl (· = h) w).setCell ⟨h, 4, none⟩ _ (.inl rfl)⟩
      have hb := HH.out.set 4 (.int .i64 52)
      simp at hb
      rw [badE_true]
      exact hb
  · have hed : ((e : Int) == 0) = false := by simp; omega
    have HE : Hid (badE e b = e) := hid (badE_stuck he b)
    clear he
    go_enter Tryz.func138, Tryz.ntmps138
    go_wp2_with fail
    go_end0
    exact ⟨⟨_, rfl⟩, by rw [HE.out]; exact HH.out, Kept.refl _ _⟩

set_option maxHeartbeats 1000000 in
theorem places5 (w : World) : Calls Tryz.prog 139 #[] w fun r w' => r = .returned (.slice (some ⟨w.heap.size, 0, none⟩) 19 19) ∧ SrcE natV w' (fun k => k = w.heap.size) (.slice (some ⟨w.heap.size, 0, none⟩) 19 19) ord ∧ Same w w' ∧ w'.heap.size = w.heap.size + 1 := by
  have HOR : Hid (SrcE natV (w.alloc (.cells #[.int .i64 16, .int .i64 17, .int .i64 18, .int .i64 0, .int .i64 8, .int .i64 7, .int .i64 9, .int .i64 6, .int .i64 10, .int .i64 5, .int .i64 11, .int .i64 4, .int .i64 12, .int .i64 3, .int .i64 13, .int .i64 2, .int .i64 14, .int .i64 1, .int .i64 15] 3)) (fun k => k = w.heap.size) (.slice (some ⟨w.heap.size, 0, none⟩) 19 19) ord) := src_nats w ord 19 rfl
  go_enter Tryz.func139, Tryz.ntmps139
  go_wp2_with fail
  go_ret
  exact ⟨rfl, HOR.out, (Kept.refl _ w).alloc _, by simp⟩

/-- A list that codes can be made of. -/
def LenOk (l : List Nat) : Prop := l.length ≤ 288 ∧ (∀ n ∈ l, n ≤ 15) ∧ measure l ≤ 32768

/-- head's answer. -/
def HeadA (w w' : World) (h : Nat) (v vo : Value) (most a : Nat) (ls : List Nat) (r : Ending) : Except Nat ((List Nat × List Nat) × Nat) → Prop
  | .error e => e ≠ 0 ∧ ∃ va vb c, r = .returned (.tuple #[va, vb]) ∧ RdB w' h v c vo most e ∧ c ≤ ls.length
  | .ok ((l, d), n) => ∃ va vb, r = .returned (.tuple #[va, vb]) ∧ RdB w' h v (a + n) vo most 0 ∧ a + n ≤ ls.length ∧ SrcE natV w' (Over w.heap.size) va l ∧ SrcE natV w' (Over w.heap.size) vb d ∧ LenOk l ∧ LenOk d

theorem headA_err {w w' : World} {h : Nat} {v vo : Value} {most a : Nat} {ls : List Nat} {e : Nat} {va vb : Value} {c : Nat} (he : e ≠ 0) (hh : head5 ls a = .error e) (hb : RdB w' h v c vo most e) (hc : c ≤ ls.length) : HeadA w w' h v vo most a ls (.returned (.tuple #[va, vb])) (head5 ls a) := by
  rw [hh]
  exact ⟨he, va, vb, c, rfl, hb, hc⟩

theorem tk_bound (ls : List Nat) (s : S5) (n M : Nat) (hM : M = ls.length) (h : s.c ≤ M) : (tk ls s n).2.c ≤ M := by
  subst hM
  exact tk_le ls s n h

set_option maxRecDepth 100000 in
set_option maxHeartbeats 16000000 in
theorem head5_any (w00 w : World) (I G : Nat → Prop) (h : Nat) (v : Value) (ls : List Nat) (most a : Nat) (so : List Nat) (vo : Value) (hz : Sz ls most) (hr : RS w I G h v ls most ⟨a, so, 0⟩ a vo) (hS : Same w00 w) (hh0 : w00.heap.size ≤ h) :
    Calls Tryz.prog 103 #[.pointer (some ⟨h, 0, none⟩)] w fun r w' => HeadA w w' h v vo most a ls r (head5 ls a) ∧ Kept (· = h) w w' := by
  have HZ : Hid (Sz ls most) := hz
  have HSW : Hid (Same w00 w) := hS
  have HRS : Hid (RS w I G h v ls most ⟨a, so, 0⟩ a vo) := hr
  have hah := hr.le
  have hhw := hr.blk.lt
  have hlen := hz.len
  obtain ⟨M, hM⟩ : ∃ M, M = ls.length := ⟨_, rfl⟩
  rw [← hM] at hah hlen
  have HM : Hid (M = ls.length) := hM
  have HERR : Hid (∀ (e : Nat) (va vb : Value) (c : Nat) (wF : World), e ≠ 0 → head5 ls a = .error e → RdB wF h v c vo most e → c ≤ M → Kept (· = h) w wF → HeadA w wF h v vo most a ls (.returned (.tuple #[va, vb])) (head5 ls a) ∧ Kept (· = h) w wF) := hid (fun e va vb c wF h1 h2 h3 h4 h5 => ⟨headA_err h1 h2 h3 (by omega), h5⟩)
  have HT : Hid (∀ (wx : World) (c e n : Nat), Kept (· = h) w wx → RdB wx h v c vo most e → n ≤ 32 → c ≤ M → Calls Tryz.prog 99 #[.pointer (some ⟨h, 0, none⟩), .int .i64 (n : Nat)] wx fun r w' => r = .returned (.int .i64 ((tk ls ⟨c, so, e⟩ n).1 : Nat)) ∧ RdB w' h v (tk ls ⟨c, so, e⟩ n).2.c vo most (tk ls ⟨c, so, e⟩ n).2.e ∧ Kept (· = h) wx w') := hid (fun wx c e n hk hH hn hc => itake_any wx h v I ls c vo so most e n hH (hr.src.kept hk (fun k hi _ e => by subst e; exact hr.gh (hr.ig _ hi))) hz.bit hn (by omega) (by omega))
  have hb0 := hr.blk
  simp only at hb0
  have HH0 : Hid (RdB w h v a vo most 0) := hb0
  clear hM hr hz hb0 hS
  -- three numbers
  have T1 := HT.out w a 0 5 (Kept.refl _ _) HH0.out (by decide) hah
  obtain ⟨t1, ht1⟩ : ∃ t, tk ls ⟨a, so, 0⟩ 5 = t := ⟨_, rfl⟩
  have hc1 := tk_bound ls ⟨a, so, 0⟩ 5 M HM.out hah
  have hx1 := tk_lt ls HZ.out.bit ⟨a, so, 0⟩ 5
  have ho1 := tk_out ls ⟨a, so, 0⟩ 5
  rw [ht1] at T1 hc1 hx1 ho1
  obtain ⟨x1, c1, o1, e1⟩ := t1
  simp only at T1 hc1 hx1 ho1
  subst ho1
  have hx1' : x1 ≤ 31 := by omega
  have HT1 : Hid (tk ls ⟨a, o1, 0⟩ 5 = (x1, ⟨c1, o1, e1⟩)) := ht1
  clear ht1 hx1
  go_enter Tryz.func103, Tryz.ntmps103
  go_wp2_with fail
  refine T1.mono ?_
  rintro r w1 ⟨rfl, hh1, hk1⟩
  have HH1 : Hid (RdB w1 h v c1 vo most e1) := hh1
  have HK1 : Hid (Kept (· = h) w w1) := hk1
  clear hh1 hk1 T1 HH0
  have T2 := HT.out w1 c1 e1 5 HK1.out HH1.out (by decide) hc1
  obtain ⟨t2, ht2⟩ : ∃ t, tk ls ⟨c1, o1, e1⟩ 5 = t := ⟨_, rfl⟩
  have hc2 := tk_bound ls ⟨c1, o1, e1⟩ 5 M HM.out hc1
  have hx2 := tk_lt ls HZ.out.bit ⟨c1, o1, e1⟩ 5
  have ho2 := tk_out ls ⟨c1, o1, e1⟩ 5
  rw [ht2] at T2 hc2 hx2 ho2
  obtain ⟨x2, c2, o2, e2⟩ := t2
  simp only at T2 hc2 hx2 ho2
  subst ho2
  have hx2' : x2 ≤ 31 := by omega
  have HT2 : Hid (tk ls ⟨c1, o2, e1⟩ 5 = (x2, ⟨c2, o2, e2⟩)) := ht2
  clear ht2 hx2
  go_wp2_with fail
  refine T2.mono ?_
  rintro r w2 ⟨rfl, hh2, hk2⟩
  have HH2 : Hid (RdB w2 h v c2 vo most e2) := hh2
  have HK2 : Hid (Kept (· = h) w w2) := hid (HK1.out.trans hk2 (fun _ _ f => f) (fun _ _ f => f))
  clear hh2 hk2 T2 HH1
  have T3 := HT.out w2 c2 e2 4 HK2.out HH2.out (by decide) hc2
  obtain ⟨t3, ht3⟩ : ∃ t, tk ls ⟨c2, o2, e2⟩ 4 = t := ⟨_, rfl⟩
  have hc3 := tk_bound ls ⟨c2, o2, e2⟩ 4 M HM.out hc2
  have hx3 := tk_lt ls HZ.out.bit ⟨c2, o2, e2⟩ 4
  have ho3 := tk_out ls ⟨c2, o2, e2⟩ 4
  rw [ht3] at T3 hc3 hx3 ho3
  obtain ⟨x3, c3, o3, e3⟩ := t3
  simp only at T3 hc3 hx3 ho3
  subst ho3
  have hx3' : x3 ≤ 15 := by omega
  have HT3 : Hid (tk ls ⟨c2, o3, e2⟩ 4 = (x3, ⟨c3, o3, e3⟩)) := ht3
  clear ht3 hx3
  go_wp2_with fail
  refine T3.mono ?_
  rintro r w3 ⟨rfl, hh3, hk3⟩
  have HH3 : Hid (RdB w3 h v c3 vo most e3) := hh3
  have HK3 : Hid (Kept (· = h) w w3) := hid (HK2.out.trans hk3 (fun _ _ f => f) (fun _ _ f => f))
  clear hh3 hk3 T3 HH2
  obtain ⟨lit, hlit⟩ : ∃ lit, lit = x1 + 257 := ⟨_, rfl⟩
  obtain ⟨dist, hdist⟩ : ∃ dist, dist = x2 + 1 := ⟨_, rfl⟩
  obtain ⟨many, hmany⟩ : ∃ many, many = x3 + 4 := ⟨_, rfl⟩
  have hlI : (257 : Int) + (x1 : Int) = (lit : Int) := by omega
  have hdI : (1 : Int) + (x2 : Int) = (dist : Int) := by omega
  have hmI : (4 : Int) + (x3 : Int) = (many : Int) := by omega
  have HA3 : Hid (∀ B : Bool, (B = true ↔ (286 < lit ∨ 30 < dist)) → At3 ls a c3 (badE e3 B) lit dist many) := hid (fun B hB => by
    have h9 := at3_of ls a o3 _ _ _ HT1.out HT2.out HT3.out B (by simp only; rw [← hlit, ← hdist]; exact hB)
    simp only at h9
    rw [← hlit, ← hdist, ← hmany] at h9
    exact h9)
  have hml : many ≤ 19 := by omega
  have hll : lit ≤ 288 := by omega
  have hl257 : 257 ≤ lit := by omega
  have hdd : dist ≤ 32 := by omega
  have hd1 : 1 ≤ dist := by omega
  clear hlit hdist hmany HT1 HT2 HT3 hc1 hc2 hx1' hx2' hx3'
  go_upto_region 4 with fail
  go_cut [] from 25 to 32 (fun wx => ∃ e4, Hid (RdB wx h v c3 vo most e4) ∧ Hid (Kept (· = h) w wx) ∧ Hid (At3 ls a c3 e4 lit dist many))
  case first =>
    by_cases hbig : 286 < lit
    · have b1 : decide ((286 : Int) < (lit : Int)) = true := by simp; omega
      have B1 := ibad_any w3 h v c3 vo most e3 true HH3.out
      have HAB : Hid (At3 ls a c3 (badE e3 true) lit dist many) := hid (HA3.out true ⟨fun _ => .inl hbig, fun _ => rfl⟩)
      go_wp2_with fail
      refine B1.mono ?_
      rintro r w4 ⟨⟨u, rfl⟩, hh4, hk4⟩
      have HH4 : Hid (RdB w4 h v c3 vo most (badE e3 true)) := hh4
      have HK4 : Hid (Kept (· = h) w w4) := hid (HK3.out.trans hk4 (fun _ _ f => f) (fun _ _ f => f))
      clear hh4 hk4 B1
      go_wp2_with fail
      go_meet
      exact ⟨_, HH4, HK4, HAB⟩
    · have b1 : decide ((286 : Int) < (lit : Int)) = false := by simp; omega
      by_cases hbig2 : 30 < dist
      · have b2 : decide ((30 : Int) < (dist : Int)) = true := by simp; omega
        have B1 := ibad_any w3 h v c3 vo most e3 true HH3.out
        have HAB : Hid (At3 ls a c3 (badE e3 true) lit dist many) := hid (HA3.out true ⟨fun _ => .inr hbig2, fun _ => rfl⟩)
        go_wp2_with fail
        refine B1.mono ?_
        rintro r w4 ⟨⟨u, rfl⟩, hh4, hk4⟩
        have HH4 : Hid (RdB w4 h v c3 vo most (badE e3 true)) := hh4
        have HK4 : Hid (Kept (· = h) w w4) := hid (HK3.out.trans hk4 (fun _ _ f => f) (fun _ _ f => f))
        clear hh4 hk4 B1
        go_wp2_with fail
        go_meet
        exact ⟨_, HH4, HK4, HAB⟩
      · have b2 : decide ((30 : Int) < (dist : Int)) = false := by simp; omega
        have B1 := ibad_any w3 h v c3 vo most e3 false HH3.out
        have HAB : Hid (At3 ls a c3 (badE e3 false) lit dist many) := hid (HA3.out false ⟨fun h => (by cases h), fun h => absurd h (by omega)⟩)
        go_wp2_with fail
        refine B1.mono ?_
        rintro r w4 ⟨⟨u, rfl⟩, hh4, hk4⟩
        have HH4 : Hid (RdB w4 h v c3 vo most (badE e3 false)) := hh4
        have HK4 : Hid (Kept (· = h) w w4) := hid (HK3.out.trans hk4 (fun _ _ f => f) (fun _ _ f => f))
        clear hh4 hk4 B1
        go_wp2_with fail
        go_meet
        exact ⟨_, HH4, HK4, HAB⟩
  case rest =>
    obtain ⟨e4, HH4, HK4, HA4⟩ := hcut
    clear HA3 HH3 HK3 HK2 HK1 hlI hdI hmI
    have hhz : h < wc.heap.size := HH4.out.lt
    have hwz := HK4.out.size
    go_wp2_with (at_make; refine wpList_make_e _ natV 0 wc.heap.size 45 3 8 Tryz.underlying45 Tryz.infoN rfl (by decide) rfl _ _ rfl _ _ _ _ 19 rfl rfl rfl rfl (by omega) (Nat.le_refl _) ?_; intro w5 hr5 hg5 hs5; have HR5 : Hid (NRow wc.heap.size w5 (.slice (some ⟨wc.heap.size, 0, none⟩) 19 19) (List.replicate 19 0)) := hr5; have HKN : Hid (Same wc w5) := hid ((Kept.refl _ wc).grown hg5 (by simp)); clear hr5 hg5)
    obtain ⟨gC, hgC⟩ : ∃ g, g = wc.heap.size := ⟨_, rfl⟩
    rw [← hgC] at HR5 hhz hwz ⊢
    have hgC5 : gC < w5.heap.size := HR5.out.lt rfl
    have HK5 : Hid (Kept (· = h) w w5) := hid (HK4.out.trans HKN.out (fun _ _ f => f) (fun _ _ f => f.elim))
    have HH5 : Hid (RdB w5 h v c3 vo most e4) := hid (HH4.out.kept HKN.out (fun f => f))
    clear HK4 HH4 hgC
    refine (places5 w5).mono ?_
    rintro r w6 ⟨rfl, ho6, hk6, hs6⟩
    obtain ⟨gO, hgO⟩ : ∃ g, g = w5.heap.size := ⟨_, rfl⟩
    rw [← hgO] at ho6 hgC5 ⊢
    have HO6 : Hid (SrcE natV w6 (fun k => k = gO) (.slice (some ⟨gO, 0, none⟩) 19 19) ord) := ho6
    have HK6 : Hid (Kept (· = h) w w6) := hid (HK5.out.trans hk6 (fun _ _ f => f) (fun _ _ f => f.elim))
    have HH6 : Hid (RdB w6 h v c3 vo most e4) := hid (HH5.out.kept hk6 (fun f => f))
    have HR6 : Hid (NRow gC w6 (.slice (some ⟨gC, 0, none⟩) 19 19) (List.replicate 19 0)) := hid (HR5.out.same hk6)
    clear ho6 hk6 hs6 hgO HH5 HR5 HK5 HKN hs5
    go_wp2_with fail
    go_loopg [9] many (fun q zi wr => ∃ (i c e : Nat) (xs : List Nat), many - i ≤ q ∧ i ≤ many ∧ zi = .int .i64 (i : Nat) ∧ c ≤ M ∧ Hid (RdB wr h v c vo most e) ∧ Hid (NRow gC wr (.slice (some ⟨gC, 0, none⟩) 19 19) xs ∧ ∀ x ∈ xs, x ≤ 7) ∧ Hid (AtC ls a i c e lit dist many xs) ∧ Hid (SrcE natV wr (fun k => k = gO) (.slice (some ⟨gO, 0, none⟩) 19 19) ord) ∧ Hid (Kept (· = h) w wr))
    case atStart => exact ⟨0, c3, e4, _, by omega, by omega, rfl, hc3, HH6, hid ⟨HR6.out, fun x hx => by have := List.eq_of_mem_replicate hx; omega⟩, hid HA4.out.codes, HO6, HK6⟩
    case round =>
      clear HH6 HR6 HO6 HK6 HA4
      obtain ⟨i, c, e, xs, hq, hi, rfl, hcM, HHr, HRr, HCr, HOr, HKr⟩ := hrel
      have hxl : xs.length = 19 := HRr.out.1.len
      have k4 := HHr.out.cell 4
      simp at k4
      have HCK := rcheck_any wr (.slice (some ⟨gC, 0, none⟩) 19 19) _ (xs.map (fun (n : Nat) => (n : Int))) (SrcE.recode (enc' := intV) (SrcE.ofRow HRr.out.1) (by rw [List.map_map]; rfl)) (by rw [List.length_map]; omega)
      rw [chk_codes xs hxl HRr.out.2] at HCK
      obtain ⟨ck, hck⟩ : ∃ ck, ck = chkN xs := ⟨_, rfl⟩
      rw [← hck] at HCK
      have HXL : Hid (xs.length = 19 ∧ ck = chkN xs) := ⟨hxl, hck⟩
      clear hck hxl
      by_cases he : e = 0
      · subst he
        by_cases hlt : i < many
        · clear HCK
          obtain ⟨b, o, cap2, e2, _, _, cO⟩ := HOr.out.get i (by show i < 19; omega)
          simp only [Value.slice.injEq, Option.some.injEq, Addr.mk.injEq, and_true] at e2
          obtain ⟨⟨rfl, rfl⟩, hxe, rfl⟩ := e2
          clear hxe
          obtain ⟨oi, hoi⟩ : ∃ oi, oi = ord.getD i 0 := ⟨_, rfl⟩
          have hio : i < ord.length := by show i < 19; omega
          have hog : ord[i] = oi := by rw [hoi]; simp [List.getD, hio]
          rw [hog, Nat.zero_add] at cO
          unfold natV at cO
          have ho18 : oi ≤ 18 := by rw [hoi]; exact ord_le i (by omega)
          obtain ⟨t, ht⟩ : ∃ t, tk ls ⟨c, o3, 0⟩ 3 = t := ⟨_, rfl⟩
          have HTX0 := HT.out wr.drew c 0 3 HKr.out.drew HHr.out (by decide) hcM
          have hc' := tk_bound ls ⟨c, o3, 0⟩ 3 M HM.out hcM
          have hx' := tk_lt ls HZ.out.bit ⟨c, o3, 0⟩ 3
          rw [ht] at HTX0 hc' hx'
          obtain ⟨x, s'⟩ := t
          simp only at HTX0 hc' hx'
          have HTX : Hid (Calls Tryz.prog 99 #[.pointer (some ⟨h, 0, none⟩), .int .i64 3] wr.drew fun r w' => r = .returned (.int .i64 (x : Nat)) ∧ RdB w' h v s'.c vo most s'.e ∧ Kept (· = h) wr.drew w') := HTX0
          have HCN : Hid (AtC ls a (i + 1) s'.c s'.e lit dist many (xs.set oi x)) := hid (by rw [hoi]; exact HCr.out.next hlt ht)
          have H7 : Hid (∀ y ∈ xs.set oi x, y ≤ 7) := hid (fun y hy => by
            rcases List.mem_or_eq_of_mem_set hy with hy | rfl
            · exact HRr.out.2 y hy
            · omega)
          have hgh : ¬ gC = h := by omega
          have hwh2 : ¬ gO = h := by omega
          have hi19 : i < 19 := by omega
          have ho19 : oi < 19 := by omega
          have HCO : Hid (wr.cell? ⟨gO, i, none⟩ = some (.int .i64 (oi : Nat))) := cO
          have HRO : Hid (NRow gC wr (.slice (some ⟨gC, 0, none⟩) 19 19) xs) := hid HRr.out.1
          clear hoi hio hog HTX0 ht ho18 hx'
          go_wp2_with fail
          go_region_with (go_at_call 99; refine HTX.out.mono ?_; rintro r w5 ⟨rfl, hh5, hk5⟩; have cO5 : w5.cell? ⟨gO, i, none⟩ = some (.int .i64 (oi : Nat)) := hk5.cell HCO.out hwh2; have hr5 : NRow gC w5 (.slice (some ⟨gC, 0, none⟩) 19 19) xs := RowE.kept (show NRow gC wr.drew (.slice (some ⟨gC, 0, none⟩) 19 19) xs from HRO.out) hk5 (fun k hk e => by simp [Value.ownBlock] at hk; omega); have cS5 := hr5.cell oi (by have := HXL.out.1; omega); have fS5 := hr5.frozen oi; have HR5 : Hid (NRow gC w5 (.slice (some ⟨gC, 0, none⟩) 19 19) xs) := hr5; have HH5 : Hid (RdB w5 h v s'.c vo most s'.e) := hh5; have HK5 : Hid (Kept (· = h) wr w5) := hid ⟨hk5.os, hk5.tape, hk5.output, hk5.size, hk5.block⟩; clear hr5 hh5 hk5)
          all_goals
            have HR6 : Hid (NRow gC (w5.setCell ⟨gC, oi, none⟩ (.int .i64 (x : Nat))) (.slice (some ⟨gC, 0, none⟩) 19 19) (xs.set oi x)) := hid (HR5.out.lay oi x)
            have HKS : Hid (Kept (· = gC) w5 (w5.setCell ⟨gC, oi, none⟩ (.int .i64 (x : Nat)))) := hid ((Kept.refl (· = gC) w5).setCell ⟨gC, oi, none⟩ _ (.inl rfl))
            have HH6 : Hid (RdB (w5.setCell ⟨gC, oi, none⟩ (.int .i64 (x : Nat))) h v s'.c vo most s'.e) := hid (HH5.out.kept HKS.out (fun e => by omega))
            have HO6 : Hid (SrcE natV (w5.setCell ⟨gC, oi, none⟩ (.int .i64 (x : Nat))) (fun k => k = gO) (.slice (some ⟨gO, 0, none⟩) 19 19) ord) := hid ((HOr.out.kept HK5.out (fun k hk _ e => by omega)).kept HKS.out (fun k hk _ e => by omega))
            have HK6 : Hid (Kept (· = h) w (w5.setCell ⟨gC, oi, none⟩ (.int .i64 (x : Nat)))) := hid ((HKr.out.trans HK5.out (fun _ _ f => f) (fun _ _ f => f)).trans HKS.out (fun _ _ f => f) (fun x hx e => by omega))
            go_wp2_with fail
            go_roundg (gk - 1)
            case measure => omega
            case rel => exact ⟨i + 1, s'.c, s'.e, _, by omega, by omega, by go_num, hc', HH6, hid ⟨HR6.out, H7.out⟩, HCN, HO6, HK6⟩
        · have him : i = many := by omega
          subst him
          have hlt' : decide (i < i) = false := by simp
          have hCC := HCr.out.check
          have hcq : c = a + 14 + 3 * i ∧ lit ≤ 286 ∧ dist ≤ 30 := by
            rcases HCr.out with ⟨h1, _⟩ | ⟨_, h2, _, _, _, h6, h7⟩
            · exact absurd rfl h1
            · exact ⟨h2, h6, h7⟩
          rw [← HXL.out.2] at hCC
          clear hlt hq hi
          by_cases hck0 : ck = 0
          · have HRI : Hid (readF ls a = finF lit a (bodyF xs ls (lit + dist) (lit + dist) [] c)) := hid (hCC.2 hck0)
            have hac : a ≤ c := by omega
            have hl286 : lit ≤ 286 := hcq.2.1
            have hd30 : dist ≤ 30 := hcq.2.2
            have hckn : chkN xs = 0 := by rw [← HXL.out.2]; exact hck0
            have HME : Hid (measure xs ≤ 32768) := hid (chkN_measure hckn)
            subst hck0
            have B1 := ibad_any wr h v c vo most 0 false HHr.out
            rw [badE_false] at B1
            clear hCC hcq hckn
            go_wp2_with fail
            clear hlt'
            refine HCK.mono ?_
            rintro r wx ⟨rfl, hwx⟩
            subst hwx
            clear HCK
            go_wp2_with fail
            refine B1.mono ?_
            rintro r w7 ⟨⟨u, rfl⟩, hh7, hk7⟩
            have HH7 : Hid (RdB w7 h v c vo most 0) := hh7
            have HK7 : Hid (Kept (· = h) w w7) := hid (HKr.out.trans hk7 (fun _ _ f => f) (fun _ _ f => f))
            have hgh : gC ≠ h := by omega
            have HR7 : Hid (NRow gC w7 (.slice (some ⟨gC, 0, none⟩) 19 19) xs) := hid (HRr.out.1.kept hk7 (fun k hk e => by simp [Value.ownBlock] at hk; omega))
            have H77 : Hid (∀ x ∈ xs, x ≤ 7) := hid HRr.out.2
            have k4' := HH7.out.cell 4
            simp at k4'
            have RO := rows_any w7 (.slice (some ⟨gC, 0, none⟩) 19 19) _ xs (SrcE.ofRow HR7.out) (by have := HXL.out.1; omega) (fun n hn => by have := H77.out n hn; omega) HME.out
            rw [HXL.out.1] at RO
            clear hh7 hk7 B1 HHr HRr HCr HOr HKr k4
            go_wp2_with fail
            refine RO.mono ?_
            rintro r w8 ⟨go, rs, rfl, hrw⟩
            have hgoR : w7.heap.size ≤ go := hrw.row.ge rfl
            have hh7 : h < w7.heap.size := HH7.out.lt
            have HS07 : Hid (Same w00 w7) := hid (Same.then HSW.out HK7.out (fun x hx e => by omega))
            have HRW8 : Hid (RW w00 w8 go 19 xs (fun s => key xs s ≠ 0) rs) := hid (hrw.down HS07.out)
            have HOFF : Hid (RowsOff w00 go xs rs h) := hid ⟨hh0, by omega, fun s hs hp e => by have := (hrw.have' s hs hp).2 h e; omega⟩
            have HH8 : Hid (RdB w8 h v c vo most 0) := hid (HH7.out.kept hrw.same (fun f => f))
            have HK8 : Hid (Kept (· = h) w w8) := hid (HK7.out.trans hrw.same (fun _ _ f => f) (fun _ _ f => f.elim))
            have HGB : Hid (RW w7 w8 go 19 xs (fun s => key xs s ≠ 0) rs) := hrw
            clear hrw RO HH7 HR7 k4'
            obtain ⟨N, hN⟩ : ∃ N, N = lit + dist := ⟨_, rfl⟩
            have hNI : (lit : Int) + (dist : Int) = (N : Int) := by omega
            have hN316 : N ≤ 316 := by omega
            have HN : Hid (N = lit + dist) := hN
            obtain ⟨B, hB⟩ : ∃ B, B = w8.heap.size := ⟨_, rfl⟩
            have hhB : h < B := by rw [hB]; exact HH8.out.lt
            have hwB : w.heap.size ≤ B := by rw [hB]; exact HK8.out.size
            have HRB : Hid (go < B ∧ ∀ s (hs : s < rs.length), key xs s ≠ 0 → ∀ k, (slV rs[s]).ownBlock = some k → k < B) := hid ⟨by rw [hB]; exact HGB.out.row.lt rfl, fun s hs hp k e => by rw [hB]; exact (HGB.out.have' s hs hp).1.lt e⟩
            have HKO : Hid (∀ wx wy, RW w00 wx go 19 xs (fun s => key xs s ≠ 0) rs → Kept (Over B) wx wy → RW w00 wy go 19 xs (fun s => key xs s ≠ 0) rs) := hid (fun wx wy hr hk => hr.kept hk (fun k hlt f => by unfold Over at f; have := HS07.out.size; have := HK8.out.size; omega) (fun f => by unfold Over at f; have := HRB.out.1; omega) (fun s hs hp k e f => by unfold Over at f; have := HRB.out.2 s hs hp k e; omega))
            have HB8 : Hid (B ≤ w8.heap.size) := hid (by omega)
            have HAB0 : Hid (AtB ls a lit dist xs N c 0 []) := hid (.inr (.inr ⟨rfl, by simp, by simp; omega, hac, by simp, by rw [HRI.out, hN]⟩))
            clear hN hB HRI HGB hgoR hh7
            go_wp2_with fail
            go_loopg [11] N (fun q zl wr => ∃ (f c2 e : Nat) (l : List Nat), f ≤ q ∧ c2 ≤ M ∧ l.length ≤ 1000 ∧ Hid (AtB ls a lit dist xs f c2 e l) ∧ Hid (NRow B wr zl l) ∧ Hid (RdB wr h v c2 vo most e) ∧ Hid (RW w00 wr go 19 xs (fun s => key xs s ≠ 0) rs) ∧ Hid (Kept (· = h) w wr) ∧ Hid (B ≤ wr.heap.size))
            case atStart => exact ⟨N, c, 0, [], by omega, hcM, by simp, HAB0, RowE.nil, HH8, HRW8, HK8, HB8⟩
            case round =>
              clear HAB0 HH8 HRW8 HK8 HB8
              obtain ⟨f, c2, e, l, hfq, hc2M, hl1000, HAB, HL, HHr, HRW, HKr, HBr⟩ := hrel
              obtain ⟨al, capl, hvl, hal, hal0, hlc, _⟩ := HL.out.shape
              subst hvl
              obtain ⟨Ln, hLn⟩ : ∃ Ln, Ln = l.length := ⟨_, rfl⟩
              rw [← hLn] at HL hlc hl1000 ⊢
              have HLn : Hid (Ln = l.length) := hLn
              have k4 := HHr.out.cell 4
              simp at k4
              by_cases he : e = 0
              · subst he
                by_cases hlt : Ln < N
                · have hlt0 : l.length < lit + dist := by have := HN.out; omega
                  have hf1 : 1 ≤ f := by
                    rcases HAB.out with ⟨h1, _⟩ | ⟨_, h1, _⟩ | ⟨_, _, h3, _⟩
                    · exact absurd rfl h1
                    · omega
                    · omega
                  obtain ⟨is, k, g, hnf⟩ : ∃ is k g, nextF xs (ls.drop c2) = (is, k, g) := ⟨_, _, _, rfl⟩
                  have hrn := nextF_is xs (ls.drop c2)
                  rw [hnf] at hrn
                  simp only at hrn
                  have hkle : c2 + k ≤ M := by
                    have := hrn.fits
                    rw [List.length_drop] at this
                    have := HM.out
                    omega
                  have his : is < 19 := by have := hrn.sym_lt (by have := HXL.out.1; omega); have := HXL.out.1; omega
                  have hg3 := hrn.small
                  have HNF : Hid (nextF xs (ls.drop c2) = (is, k, g)) := hnf
                  have HLT : Hid (l.length < lit + dist) := hlt0
                  have Y1 := isym_any wr w00 h v I ls c2 vo most 0 52 go 19 xs rs HHr.out (HRS.out.src.kept HKr.out (fun k hi _ e => by subst e; exact HRS.out.gh (HRS.out.ig _ hi))) (by have := HM.out; omega) (by have := HM.out; omega) HRW.out HXL.out.1.symm (by decide) (fun s => by
                    by_cases e : s < xs.length
                    · rw [key_get e]; have := H77.out _ (List.getElem_mem e); omega
                    · simp [key, e])
                  have Y2 : Calls Tryz.prog 136 #[.pointer (some ⟨h, 0, none⟩), .slice (some ⟨go, 0, none⟩) 19 19, .int .i64 52] wr fun r w' => r = .returned (.int .i64 (is : Nat)) ∧ RdB w' h v (c2 + k) vo most (syE g 52) ∧ Kept (· = h) wr w' := Y1.mono (by
                    rintro e w' ⟨hA, hk⟩
                    unfold SymA at hA
                    rw [if_neg (by simp), hnf] at hA
                    exact ⟨hA.1, hA.2, hk⟩)
                  obtain ⟨ck2, hck2⟩ : ∃ ck2, ck2 = c2 + k := ⟨_, rfl⟩
                  rw [← hck2] at Y2 hkle
                  have HCK2 : Hid (ck2 = c2 + k) := hck2
                  clear hrn hnf Y1 hLn hck2 hlt0
                  go_wp2_with fail
                  refine Y2.mono ?_
                  rintro r w9 ⟨rfl, hh9, hk9⟩
                  have HL9 : Hid (NRow B w9 (.slice al Ln capl) l) := hid (HL.out.kept hk9 (fun k hk e => by have := HL.out.ge hk; omega))
                  have HRW9 : Hid (RW w00 w9 go 19 xs (fun s => key xs s ≠ 0) rs) := hid (HRW.out.off HOFF.out hk9)
                  have HK9 : Hid (Kept (· = h) w w9) := hid (HKr.out.trans hk9 (fun _ _ f => f) (fun _ _ f => f))
                  have HB9 : Hid (B ≤ w9.heap.size) := hid (Nat.le_trans HBr.out hk9.size)
                  have HH9 : Hid (RdB w9 h v ck2 vo most (syE g 52)) := hh9
                  clear hh9 hk9 Y2 HL HRW HKr HBr HHr k4
                  by_cases hg0 : g = 0
                  · subst hg0
                    have HH9' : Hid (RdB w9 h v ck2 vo most 0) := HH9
                    clear HH9
                    have k4' := HH9'.out.cell 4
                    simp at k4'
                    have HWALK : Hid (∀ w10 v10 l', NRow B w10 v10 l' → Kept (Over B) w9 w10 → RW w00 w10 go 19 xs (fun s => key xs s ≠ 0) rs ∧ Kept (· = h) w w10 ∧ B ≤ w10.heap.size ∧ (∀ c e, RdB w9 h v c vo most e → RdB w10 h v c vo most e)) := hid (fun w10 v10 l' _ hkO => ⟨HKO.out w9 w10 HRW9.out hkO, HK9.out.trans hkO (fun _ _ f => f) (fun x hx f => by unfold Over at f; omega), Nat.le_trans HB9.out hkO.size, fun c e hb => hb.kept hkO (fun f => by unfold Over at f; omega)⟩)
                    by_cases hi16 : is < 16
                    · have HNEW : Hid (AtB ls a lit dist xs (f - 1) ck2 0 (l ++ [is])) := hid (by
                        have hxb : xbits is = 0 := by unfold xbits; rw [if_neg (by omega), if_neg (by omega), if_neg (by omega)]
                        have h9 := HAB.out.says HLT.out HNF.out (x := 0) (v := is) (n := 1) (by rw [hxb]; have := HM.out; have := HCK2.out; omega) (by rw [hxb]; simp [numAt, n2]) (by unfold saysM; rw [if_pos ⟨by simp, by simp; omega, rfl⟩]; simp)
                        rw [hxb, Nat.add_zero, ← HCK2.out] at h9
                        exact h9)
                      have HLen : Hid (l.length + 1 ≤ 1000000000) := hid (by have := HLn.out; omega)
                      go_wp2_with (at_builtin; refine wpList_append_nat _ B rfl (.tmp 97) (.tmp 99) rfl (.slice al Ln capl) l rfl (World.ownsRow.alloc HL9.out _) ⟨w9.heap.size, 0, none⟩ is rfl (nat_new _ _) HLen.out (by have := HB9.out; simp; omega) ?_; intro v10 w10 hr10 hg10)
                      have hkO : Kept (Over B) w9 w10 := ((Kept.refl _ w9).alloc _).grown hg10 (fun k e => .inl (HL9.out.ge e))
                      have hW := HWALK.out w10 v10 _ hr10 hkO
                      have HL10 : Hid (NRow B w10 v10 (l ++ [is])) := hr10
                      have HF10 : Hid (RW w00 w10 go 19 xs (fun s => key xs s ≠ 0) rs ∧ Kept (· = h) w w10 ∧ B ≤ w10.heap.size ∧ RdB w10 h v ck2 vo most 0) := hid ⟨hW.1, hW.2.1, hW.2.2.1, hW.2.2.2 ck2 0 HH9'.out⟩
                      clear hr10 hg10 hkO hW
                      go_wp2_with fail
                      go_roundg (gk - 1)
                      case measure => omega
                      case rel => exact ⟨f - 1, ck2, 0, _, by omega, hkle, by have := HLn.out; simp; omega, HNEW, HL10, hid HF10.out.2.2.2, hid HF10.out.1, hid HF10.out.2.1, hid HF10.out.2.2.1⟩
                    · have hi16d : decide (is < 16) = false := by simp; omega
                      by_cases h16 : is = 16
                      · subst h16
                        have T1 := HT.out w9 ck2 0 2 HK9.out HH9'.out (by decide) hkle
                        rcases tk_cases ls ck2 o3 2 with ⟨hft, htk⟩ | ⟨hft, htk⟩
                        · have hx4 := tk_lt ls HZ.out.bit ⟨ck2, o3, 0⟩ 2
                          rw [htk] at T1 hx4
                          simp only at T1 hx4
                          obtain ⟨x, hx⟩ : ∃ x, x = numAt ls ck2 2 := ⟨_, rfl⟩
                          rw [← hx] at T1 hx4
                          obtain ⟨n, hn⟩ : ∃ n, n = 3 + x := ⟨_, rfl⟩
                          have hnI : (3 : Int) + (x : Int) = (n : Int) := by omega
                          have HXN : Hid (x = numAt ls (c2 + k) (xbits 16) ∧ c2 + k + xbits 16 ≤ ls.length ∧ n = x + 3) := hid ⟨by rw [← HCK2.out]; exact hx, by rw [← HCK2.out]; exact hft, by omega⟩
                          have hftM : ck2 + 2 ≤ M := by have := HM.out; omega
                          have HX4 : Hid (x < 4) := hid hx4
                          have hn200 : n ≤ 200 := by have := HX4.out; omega
                          clear hx htk hft hx4 hn
                          go_wp2_with fail
                          refine T1.mono ?_
                          rintro r w10 ⟨rfl, hh10, hk10⟩
                          have HH10 : Hid (RdB w10 h v (ck2 + 2) vo most 0) := hh10
                          have HL10 : Hid (NRow B w10 (.slice al Ln capl) l) := hid (HL9.out.kept hk10 (fun k hk e => by have := HL9.out.ge hk; omega))
                          have HRW10 : Hid (RW w00 w10 go 19 xs (fun s => key xs s ≠ 0) rs) := hid (HRW9.out.off HOFF.out hk10)
                          have HK10 : Hid (Kept (· = h) w w10) := hid (HK9.out.trans hk10 (fun _ _ f => f) (fun _ _ f => f))
                          have HB10 : Hid (B ≤ w10.heap.size) := hid (Nat.le_trans HB9.out hk10.size)
                          clear hh10 hk10 T1 HL9 HRW9 HK9 HB9 HH9' k4' HWALK
                          by_cases hL0 : Ln = 0
                          · subst hL0
                            have B1 := ibad_any w10 h v (ck2 + 2) vo most 0 true HH10.out
                            rw [badE_true] at B1
                            have HE : Hid (head5 ls a = .error 52) := hid (HAB.out.none HLT.out HNF.out HXN.out.2.1 HXN.out.1 (by
                              have hl0 : l.length = 0 := HLn.out.symm
                              unfold saysM
                              rw [if_neg (by simp), if_neg (by omega), if_neg (by simp), if_neg (by simp)]))
                            go_wp2_with fail
                            refine B1.mono ?_
                            rintro r w11 ⟨⟨u, rfl⟩, hh11, hk11⟩
                            have HH11 : Hid (RdB w11 h v (ck2 + 2) vo most 52) := hh11
                            have HF11 : Hid (NRow B w11 (.slice al 0 capl) l ∧ RW w00 w11 go 19 xs (fun s => key xs s ≠ 0) rs ∧ Kept (· = h) w w11 ∧ B ≤ w11.heap.size) := hid ⟨HL10.out.kept hk11 (fun k hk e => by have := HL10.out.ge hk; omega), HRW10.out.off HOFF.out hk11, HK10.out.trans hk11 (fun _ _ f => f) (fun _ _ f => f), Nat.le_trans HB10.out hk11.size⟩
                            have k5 := HH11.out.cell 4
                            simp at k5
                            clear hh11 hk11 B1
                            go_wp2_with fail
                            go_roundg (gk - 1)
                            case measure => omega
                            case rel => exact ⟨f - 1, ck2 + 2, 52, l, by omega, hftM, by have := HLn.out; omega, hid (.inl ⟨by decide, HE.out⟩), hid HF11.out.1, HH11, hid HF11.out.2.1, hid HF11.out.2.2.1, hid HF11.out.2.2.2⟩
                          · have hL0d : ((Ln : Int) == 0) = false := by simp; omega
                            have B1 := ibad_any w10 h v (ck2 + 2) vo most 0 false HH10.out
                            rw [badE_false] at B1
                            obtain ⟨gl, hgl⟩ := hal (by intro e; rw [e] at HLn; have := HLn.out; simp at this; omega)
                            subst hgl
                            go_wp2_with fail
                            refine B1.mono ?_
                            rintro r w11 ⟨⟨u, rfl⟩, hh11, hk11⟩
                            have HH11 : Hid (RdB w11 h v (ck2 + 2) vo most 0) := hh11
                            have HL11 : Hid (NRow B w11 (.slice (some ⟨gl, 0, none⟩) Ln capl) l) := hid (HL10.out.kept hk11 (fun k hk e => by have := HL10.out.ge hk; omega))
                            have HF11 : Hid (RW w00 w11 go 19 xs (fun s => key xs s ≠ 0) rs ∧ Kept (· = h) w w11 ∧ B ≤ w11.heap.size) := hid ⟨HRW10.out.off HOFF.out hk11, HK10.out.trans hk11 (fun _ _ f => f) (fun _ _ f => f), Nat.le_trans HB10.out hk11.size⟩
                            have k5 := HH11.out.cell 4
                            simp at k5
                            obtain ⟨p, hp⟩ : ∃ p, p = Ln - 1 := ⟨_, rfl⟩
                            have hpI : (Ln : Int) - 1 = (p : Int) := by omega
                            have hpl : p < l.length := by have := HLn.out; omega
                            have hpL : p < Ln := by omega
                            have cx := HL11.out.cell p hpl
                            obtain ⟨y, hy⟩ : ∃ y, y = l[p] := ⟨_, rfl⟩
                            rw [← hy] at cx
                            unfold natV at cx
                            have TT := times5 w11 B (.slice (some ⟨gl, 0, none⟩) Ln capl) l n y HL11.out HF11.out.2.2 (by have := HLn.out; omega)
                            have HNEW : Hid (AtB ls a lit dist xs (f - 1) (ck2 + 2) 0 (l ++ List.replicate n y)) := hid (by
                              have hla : lastN l = y := by
                                unfold lastN
                                rw [← HLn.out, ← hp, hy]
                                simp [List.getD, hpl]
                              have h9 := HAB.out.says HLT.out HNF.out (x := x) (v := y) (n := n) HXN.out.2.1 HXN.out.1 (by
                                unfold saysM
                                rw [if_neg (by simp), if_pos ⟨rfl, by have := HX4.out; omega, by have := HX4.out; omega, by have := HX4.out; omega⟩, hla]
                                have := HXN.out.2.2
                                simp; omega)
                              rw [← HCK2.out] at h9
                              exact h9)
                            clear hh11 hk11 B1 hy hp
                            go_wp2_with fail
                            refine TT.mono ?_
                            rintro r w12 ⟨v12, rfl, hr12, hkO⟩
                            have HL12 : Hid (NRow B w12 v12 (l ++ List.replicate n y)) := hr12
                            have HF12 : Hid (RW w00 w12 go 19 xs (fun s => key xs s ≠ 0) rs ∧ Kept (· = h) w w12 ∧ B ≤ w12.heap.size ∧ RdB w12 h v (ck2 + 2) vo most 0) := hid ⟨HKO.out w11 w12 HF11.out.1 hkO, HF11.out.2.1.trans hkO (fun _ _ f => f) (fun x hx f => by unfold Over at f; omega), Nat.le_trans HF11.out.2.2 hkO.size, HH11.out.kept hkO (fun f => by unfold Over at f; omega)⟩
                            clear hr12 hkO TT
                            go_wp2_with fail
                            go_roundg (gk - 1)
                            case measure => omega
                            case rel => exact ⟨f - 1, ck2 + 2, 0, _, by omega, hftM, by have := HLn.out; simp; omega, HNEW, HL12, hid HF12.out.2.2.2, hid HF12.out.1, hid HF12.out.2.1, hid HF12.out.2.2.1⟩
                        · rw [htk] at T1
                          simp only at T1
                          have HE : Hid (head5 ls a = .error 55) := hid (HAB.out.short HLT.out HNF.out (by rw [← HCK2.out]; exact hft))
                          clear htk hft
                          go_wp2_with fail
                          refine T1.mono ?_
                          rintro r w10 ⟨rfl, hh10, hk10⟩
                          have HH10 : Hid (RdB w10 h v ck2 vo most 55) := hh10
                          have B1 : Hid (∀ b : Bool, Calls Tryz.prog 138 #[.pointer (some ⟨h, 0, none⟩), .bool b] w10 fun r w' => (∃ u, r = .returned u) ∧ RdB w' h v ck2 vo most 55 ∧ Kept (· = h) w10 w') := hid (fun b => by
                            have h9 := ibad_any w10 h v ck2 vo most 55 b HH10.out
                            rw [badE_stuck (by decide)] at h9
                            exact h9)
                          have HF10 : Hid (NRow B w10 (.slice al Ln capl) l ∧ RW w00 w10 go 19 xs (fun s => key xs s ≠ 0) rs ∧ Kept (· = h) w w10 ∧ B ≤ w10.heap.size) := hid ⟨HL9.out.kept hk10 (fun k hk e => by have := HL9.out.ge hk; omega), HRW9.out.off HOFF.out hk10, HK9.out.trans hk10 (fun _ _ f => f) (fun _ _ f => f), Nat.le_trans HB9.out hk10.size⟩
                          clear hh10 hk10 T1
                          go_wp2_with fail
                          refine (B1.out _).mono ?_
                          rintro r w11 ⟨⟨u, rfl⟩, hh11, hk11⟩
                          have HH11 : Hid (RdB w11 h v ck2 vo most 55) := hh11
                          have HF11 : Hid (NRow B w11 (.slice al Ln capl) l ∧ RW w00 w11 go 19 xs (fun s => key xs s ≠ 0) rs ∧ Kept (· = h) w w11 ∧ B ≤ w11.heap.size) := hid ⟨HF10.out.1.kept hk11 (fun k hk e => by have := HF10.out.1.ge hk; omega), HF10.out.2.1.off HOFF.out hk11, HF10.out.2.2.1.trans hk11 (fun _ _ f => f) (fun _ _ f => f), Nat.le_trans HF10.out.2.2.2 hk11.size⟩
                          have k5 := HH11.out.cell 4
                          simp at k5
                          clear hh11 hk11
                          go_wp2_with fail
                          go_roundg (gk - 1)
                          case measure => omega
                          case rel => exact ⟨f - 1, ck2, 55, l, by omega, hkle, by have := HLn.out; omega, hid (.inl ⟨by decide, HE.out⟩), hid HF11.out.1, HH11, hid HF11.out.2.1, hid HF11.out.2.2.1, hid HF11.out.2.2.2⟩
                      · have h16d : ((is : Int) == 16) = false := by simp; omega
                        by_cases h17 : is = 17
                        · subst h17
                          have T1 := HT.out w9 ck2 0 3 HK9.out HH9'.out (by decide) hkle
                          rcases tk_cases ls ck2 o3 3 with ⟨hft, htk⟩ | ⟨hft, htk⟩
                          · have hx4 := tk_lt ls HZ.out.bit ⟨ck2, o3, 0⟩ 3
                            rw [htk] at T1 hx4
                            simp only at T1 hx4
                            obtain ⟨x, hx⟩ : ∃ x, x = numAt ls ck2 3 := ⟨_, rfl⟩
                            rw [← hx] at T1 hx4
                            have hx4' : x < 8 := hx4
                            obtain ⟨n, hn⟩ : ∃ n, n = 3 + x := ⟨_, rfl⟩
                            have hnI : (3 : Int) + (x : Int) = (n : Int) := by omega
                            have hn200 : n ≤ 200 := by omega
                            have HNEW : Hid (AtB ls a lit dist xs (f - 1) (ck2 + 3) 0 (l ++ List.replicate n 0)) := hid (by
                              have h9 := HAB.out.says HLT.out HNF.out (x := x) (v := 0) (n := n) (by rw [← HCK2.out]; exact hft) (by rw [← HCK2.out]; exact hx) (by
                                unfold saysM
                                rw [if_neg (by simp), if_neg (by simp), if_pos ⟨rfl, by omega, by omega⟩]
                                simp; omega)
                              rw [← HCK2.out] at h9
                              exact h9)
                            have hftM : ck2 + 3 ≤ M := by have := HM.out; omega
                            clear hx htk hft hx4 hx4' hn
                            go_wp2_with fail
                            refine T1.mono ?_
                            rintro r w10 ⟨rfl, hh10, hk10⟩
                            have HH10 : Hid (RdB w10 h v (ck2 + 3) vo most 0) := hh10
                            have HL10 : Hid (NRow B w10 (.slice al Ln capl) l) := hid (HL9.out.kept hk10 (fun k hk e => by have := HL9.out.ge hk; omega))
                            have HF10 : Hid (RW w00 w10 go 19 xs (fun s => key xs s ≠ 0) rs ∧ Kept (· = h) w w10 ∧ B ≤ w10.heap.size) := hid ⟨HRW9.out.off HOFF.out hk10, HK9.out.trans hk10 (fun _ _ f => f) (fun _ _ f => f), Nat.le_trans HB9.out hk10.size⟩
                            have TT := times5 w10 B (.slice al Ln capl) l n 0 HL10.out HF10.out.2.2 (by have := HLn.out; omega)
                            clear hh10 hk10 T1
                            go_wp2_with fail
                            refine TT.mono ?_
                            rintro r w12 ⟨v12, rfl, hr12, hkO⟩
                            have HL12 : Hid (NRow B w12 v12 (l ++ List.replicate n 0)) := hr12
                            have HF12 : Hid (RW w00 w12 go 19 xs (fun s => key xs s ≠ 0) rs ∧ Kept (· = h) w w12 ∧ B ≤ w12.heap.size ∧ RdB w12 h v (ck2 + 3) vo most 0) := hid ⟨HKO.out w10 w12 HF10.out.1 hkO, HF10.out.2.1.trans hkO (fun _ _ f => f) (fun x hx f => by unfold Over at f; omega), Nat.le_trans HF10.out.2.2 hkO.size, HH10.out.kept hkO (fun f => by unfold Over at f; omega)⟩
                            clear hr12 hkO TT
                            go_wp2_with fail
                            go_roundg (gk - 1)
                            case measure => omega
                            case rel => exact ⟨f - 1, ck2 + 3, 0, _, by omega, hftM, by have := HLn.out; simp; omega, HNEW, HL12, hid HF12.out.2.2.2, hid HF12.out.1, hid HF12.out.2.1, hid HF12.out.2.2.1⟩
                          · rw [htk] at T1
                            simp only at T1
                            have HE : Hid (head5 ls a = .error 55) := hid (HAB.out.short HLT.out HNF.out (by rw [← HCK2.out]; exact hft))
                            clear htk hft
                            go_wp2_with fail
                            refine T1.mono ?_
                            rintro r w10 ⟨rfl, hh10, hk10⟩
                            have HH10 : Hid (RdB w10 h v ck2 vo most 55) := hh10
                            have HL10 : Hid (NRow B w10 (.slice al Ln capl) l) := hid (HL9.out.kept hk10 (fun k hk e => by have := HL9.out.ge hk; omega))
                            have HF10 : Hid (RW w00 w10 go 19 xs (fun s => key xs s ≠ 0) rs ∧ Kept (· = h) w w10 ∧ B ≤ w10.heap.size) := hid ⟨HRW9.out.off HOFF.out hk10, HK9.out.trans hk10 (fun _ _ f => f) (fun _ _ f => f), Nat.le_trans HB9.out hk10.size⟩
                            have TT := times5 w10 B (.slice al Ln capl) l 3 0 HL10.out HF10.out.2.2 (by have := HLn.out; omega)
                            clear hh10 hk10 T1
                            go_wp2_with fail
                            refine TT.mono ?_
                            rintro r w12 ⟨v12, rfl, hr12, hkO⟩
                            have HL12 : Hid (NRow B w12 v12 (l ++ List.replicate 3 0)) := hr12
                            have HF12 : Hid (RW w00 w12 go 19 xs (fun s => key xs s ≠ 0) rs ∧ Kept (· = h) w w12 ∧ B ≤ w12.heap.size ∧ RdB w12 h v ck2 vo most 55) := hid ⟨HKO.out w10 w12 HF10.out.1 hkO, HF10.out.2.1.trans hkO (fun _ _ f => f) (fun x hx f => by unfold Over at f; omega), Nat.le_trans HF10.out.2.2 hkO.size, HH10.out.kept hkO (fun f => by unfold Over at f; omega)⟩
                            clear hr12 hkO TT
                            go_wp2_with fail
                            go_roundg (gk - 1)
                            case measure => omega
                            case rel => exact ⟨f - 1, ck2, 55, _, by omega, hkle, by have := HLn.out; simp; omega, hid (.inl ⟨by decide, HE.out⟩), HL12, hid HF12.out.2.2.2, hid HF12.out.1, hid HF12.out.2.1, hid HF12.out.2.2.1⟩
                        · have h18 : is = 18 := by omega
                          subst h18
                          have T1 := HT.out w9 ck2 0 7 HK9.out HH9'.out (by decide) hkle
                          rcases tk_cases ls ck2 o3 7 with ⟨hft, htk⟩ | ⟨hft, htk⟩
                          · have hx4 := tk_lt ls HZ.out.bit ⟨ck2, o3, 0⟩ 7
                            rw [htk] at T1 hx4
                            simp only at T1 hx4
                            obtain ⟨x, hx⟩ : ∃ x, x = numAt ls ck2 7 := ⟨_, rfl⟩
                            rw [← hx] at T1 hx4
                            have hx4' : x < 128 := hx4
                            obtain ⟨n, hn⟩ : ∃ n, n = 11 + x := ⟨_, rfl⟩
                            have hnI : (11 : Int) + (x : Int) = (n : Int) := by omega
                            have hn200 : n ≤ 200 := by omega
                            have HNEW : Hid (AtB ls a lit dist xs (f - 1) (ck2 + 7) 0 (l ++ List.replicate n 0)) := hid (by
                              have h9 := HAB.out.says HLT.out HNF.out (x := x) (v := 0) (n := n) (by rw [← HCK2.out]; exact hft) (by rw [← HCK2.out]; exact hx) (by
                                unfold saysM
                                rw [if_neg (by simp), if_neg (by simp), if_neg (by simp), if_pos ⟨rfl, by omega, by omega⟩]
                                simp; omega)
                              rw [← HCK2.out] at h9
                              exact h9)
                            have hftM : ck2 + 7 ≤ M := by have := HM.out; omega
                            clear hx htk hft hx4 hx4' hn
                            go_wp2_with fail
                            refine T1.mono ?_
                            rintro r w10 ⟨rfl, hh10, hk10⟩
                            have HH10 : Hid (RdB w10 h v (ck2 + 7) vo most 0) := hh10
                            have HL10 : Hid (NRow B w10 (.slice al Ln capl) l) := hid (HL9.out.kept hk10 (fun k hk e => by have := HL9.out.ge hk; omega))
                            have HF10 : Hid (RW w00 w10 go 19 xs (fun s => key xs s ≠ 0) rs ∧ Kept (· = h) w w10 ∧ B ≤ w10.heap.size) := hid ⟨HRW9.out.off HOFF.out hk10, HK9.out.trans hk10 (fun _ _ f => f) (fun _ _ f => f), Nat.le_trans HB9.out hk10.size⟩
                            have TT := times5 w10 B (.slice al Ln capl) l n 0 HL10.out HF10.out.2.2 (by have := HLn.out; omega)
                            clear hh10 hk10 T1
                            go_wp2_with fail
                            refine TT.mono ?_
                            rintro r w12 ⟨v12, rfl, hr12, hkO⟩
                            have HL12 : Hid (NRow B w12 v12 (l ++ List.replicate n 0)) := hr12
                            have HF12 : Hid (RW w00 w12 go 19 xs (fun s => key xs s ≠ 0) rs ∧ Kept (· = h) w w12 ∧ B ≤ w12.heap.size ∧ RdB w12 h v (ck2 + 7) vo most 0) := hid ⟨HKO.out w10 w12 HF10.out.1 hkO, HF10.out.2.1.trans hkO (fun _ _ f => f) (fun x hx f => by unfold Over at f; omega), Nat.le_trans HF10.out.2.2 hkO.size, HH10.out.kept hkO (fun f => by unfold Over at f; omega)⟩
                            clear hr12 hkO TT
                            go_wp2_with fail
                            go_roundg (gk - 1)
                            case measure => omega
                            case rel => exact ⟨f - 1, ck2 + 7, 0, _, by omega, hftM, by have := HLn.out; simp; omega, HNEW, HL12, hid HF12.out.2.2.2, hid HF12.out.1, hid HF12.out.2.1, hid HF12.out.2.2.1⟩
                          · rw [htk] at T1
                            simp only at T1
                            have HE : Hid (head5 ls a = .error 55) := hid (HAB.out.short HLT.out HNF.out (by rw [← HCK2.out]; exact hft))
                            clear htk hft
                            go_wp2_with fail
                            refine T1.mono ?_
                            rintro r w10 ⟨rfl, hh10, hk10⟩
                            have HH10 : Hid (RdB w10 h v ck2 vo most 55) := hh10
                            have HL10 : Hid (NRow B w10 (.slice al Ln capl) l) := hid (HL9.out.kept hk10 (fun k hk e => by have := HL9.out.ge hk; omega))
                            have HF10 : Hid (RW w00 w10 go 19 xs (fun s => key xs s ≠ 0) rs ∧ Kept (· = h) w w10 ∧ B ≤ w10.heap.size) := hid ⟨HRW9.out.off HOFF.out hk10, HK9.out.trans hk10 (fun _ _ f => f) (fun _ _ f => f), Nat.le_trans HB9.out hk10.size⟩
                            have TT := times5 w10 B (.slice al Ln capl) l 11 0 HL10.out HF10.out.2.2 (by have := HLn.out; omega)
                            clear hh10 hk10 T1
                            go_wp2_with fail
                            refine TT.mono ?_
                            rintro r w12 ⟨v12, rfl, hr12, hkO⟩
                            have HL12 : Hid (NRow B w12 v12 (l ++ List.replicate 11 0)) := hr12
                            have HF12 : Hid (RW w00 w12 go 19 xs (fun s => key xs s ≠ 0) rs ∧ Kept (· = h) w w12 ∧ B ≤ w12.heap.size ∧ RdB w12 h v ck2 vo most 55) := hid ⟨HKO.out w10 w12 HF10.out.1 hkO, HF10.out.2.1.trans hkO (fun _ _ f => f) (fun x hx f => by unfold Over at f; omega), Nat.le_trans HF10.out.2.2 hkO.size, HH10.out.kept hkO (fun f => by unfold Over at f; omega)⟩
                            clear hr12 hkO TT
                            go_wp2_with fail
                            go_roundg (gk - 1)
                            case measure => omega
                            case rel => exact ⟨f - 1, ck2, 55, _, by omega, hkle, by have := HLn.out; simp; omega, hid (.inl ⟨by decide, HE.out⟩), HL12, hid HF12.out.2.2.2, hid HF12.out.1, hid HF12.out.2.1, hid HF12.out.2.2.1⟩
                  · have he7 : syE g 52 ≠ 0 := by unfold syE; rcases hg3 with h | h | h <;> simp [h] <;> omega
                    have HE : Hid (head5 ls a = .error (syE g 52)) := hid (by
                      rw [HAB.out.bad HLT.out HNF.out hg0]
                      rcases hg3 with h | h | h
                      · exact absurd h hg0
                      · rw [h]; rfl
                      · rw [h]; rfl)
                    obtain ⟨e7, hee⟩ : ∃ e7, e7 = syE g 52 := ⟨_, rfl⟩
                    rw [← hee] at HH9 he7 HE
                    have hed : ((e7 : Int) != 0) = true := by simp; omega
                    have HE7 : Hid (e7 ≠ 0) := he7
                    have k4' := HH9.out.cell 4
                    simp at k4'
                    clear hee he7 hg0
                    go_wp2_with fail
                    go_roundg (gk - 1)
                    case measure => omega
                    case rel => exact ⟨f - 1, ck2, e7, l, by omega, hkle, by have := HLn.out; omega, hid (.inl ⟨HE7.out, HE.out⟩), HL9, HH9, HRW9, HK9, HB9⟩
                · have hltd : decide (Ln < N) = false := by simp; omega
                  by_cases hov : N < Ln
                  · have HE : Hid (head5 ls a = .error 52) := hid (HAB.out.over (by have := HN.out; omega))
                    have B1 := ibad_any wr h v c2 vo most 0 true HHr.out
                    rw [badE_true] at B1
                    clear hLn hlt
                    go_wp2_with fail
                    refine B1.mono ?_
                    rintro r w9 ⟨⟨u, rfl⟩, hh9, hk9⟩
                    have HH9 : Hid (RdB w9 h v c2 vo most 52) := hh9
                    have HK9 : Hid (Kept (· = h) w w9) := hid (HKr.out.trans hk9 (fun _ _ f => f) (fun _ _ f => f))
                    have k4' := HH9.out.cell 4
                    simp at k4'
                    clear hh9 hk9 B1
                    go_wp2_with fail
                    go_ret2
                    exact HERR.out 52 _ _ c2 _ (by decide) HE.out HH9.out hc2M HK9.out
                  · have hovd : decide (N < Ln) = false := by simp; omega
                    have hD := HAB.out.done (by have := HN.out; omega)
                    have HD : Hid (readF ls a = .ok ((l.take lit, l.drop lit), c2 - a) ∧ a ≤ c2 ∧ (∀ x ∈ l, x ≤ 15)) := hD
                    have hLN1 : Ln ≤ N := by omega
                    have hLN2 : N ≤ Ln := by omega
                    have B1 := ibad_any wr h v c2 vo most 0 false HHr.out
                    rw [badE_false] at B1
                    obtain ⟨gl, hgl⟩ := hal (by intro e; rw [e] at hLn; simp at hLn; omega)
                    subst hgl
                    clear hD hLn hlt
                    go_wp2_with fail
                    refine B1.mono ?_
                    rintro r w9 ⟨⟨u, rfl⟩, hh9, hk9⟩
                    have HH9 : Hid (RdB w9 h v c2 vo most 0) := hh9
                    have HK9 : Hid (Kept (· = h) w w9) := hid (HKr.out.trans hk9 (fun _ _ f => f) (fun _ _ f => f))
                    have HL9 : Hid (NRow B w9 (.slice (some ⟨gl, 0, none⟩) Ln capl) l) := hid (HL.out.kept hk9 (fun k hk e => by have := HL.out.ge hk; omega))
                    have hglb : B ≤ gl := HL9.out.ge rfl
                    have k4' := HH9.out.cell 4
                    simp at k4'
                    clear hh9 hk9 B1 k4
                    have hlitc : lit ≤ capl := by omega
                    have hlitL : lit ≤ Ln := by omega
                    have hlitc2 : lit < capl := by omega
                    have h256 : 256 < l.length := by have := HLn.out; have := HN.out; omega
                    have h256c : 256 < capl := by omega
                    have cx := HL9.out.cell 256 h256
                    obtain ⟨x6, hx6⟩ : ∃ x6, x6 = l[256] := ⟨_, rfl⟩
                    rw [← hx6] at cx
                    unfold natV at cx
                    obtain ⟨la, hla⟩ : ∃ la, la = l.take lit := ⟨_, rfl⟩
                    obtain ⟨da, hda⟩ : ∃ da, da = l.drop lit := ⟨_, rfl⟩
                    have HSA : Hid (SrcE natV w9 (Over w.heap.size) (.slice (some ⟨gl, 0, none⟩) lit capl) la) := hid (by
                      have h0 := (SrcE.ofRow HL9.out).mono (J := Over w.heap.size) (fun k hk => by simp [Value.ownBlock] at hk; unfold Over; omega)
                      rw [HLn.out] at h0
                      rw [hla]
                      exact h0.part lit (by have := HLn.out; omega))
                    have HSB : Hid (SrcE natV w9 (Over w.heap.size) (.slice (some ⟨gl, lit, none⟩) (Ln - lit) (capl - lit)) da) := hid (by
                      have h0 := (SrcE.ofRow HL9.out).mono (J := Over w.heap.size) (fun k hk => by simp [Value.ownBlock] at hk; unfold Over; omega)
                      rw [HLn.out] at h0 ⊢
                      rw [hda]
                      exact h0.tail lit lit (by have := HLn.out; omega) (fun _ => by have := HLn.out; omega))
                    have hg6 : la.getD 256 0 = x6 := by rw [hla, hx6]; simp [List.getD, h256, show 256 < lit by omega]
                    have hlal : la.length = lit := by rw [hla, List.length_take]; have := HLn.out; omega
                    have hdal : da.length = Ln - lit := by rw [hda, List.length_drop]; have := HLn.out; omega
                    have hla15 : ∀ n ∈ la, n ≤ 15 := fun n hn => HD.out.2.2 n (by rw [hla] at hn; exact List.mem_of_mem_take hn)
                    have hda15 : ∀ n ∈ da, n ≤ 15 := fun n hn => HD.out.2.2 n (by rw [hda] at hn; exact List.mem_of_mem_drop hn)
                    have HHD : Hid (head5 ls a = if x6 = 0 ∨ chkN la ≠ 0 ∨ (usedB da = true ∧ chkN da ≠ 0) then .error 52 else .ok ((la, da), c2 - a)) := hid (by
                      unfold head5
                      rw [HD.out.1, ← hla, ← hda]
                      simp only
                      rw [hg6])
                    have C1 := rcheck_any w9 (.slice (some ⟨gl, 0, none⟩) lit capl) _ (la.map (fun (n : Nat) => (n : Int))) (SrcE.recode (enc' := intV) HSA.out (by rw [List.map_map]; rfl)) (by rw [List.length_map]; omega)
                    rw [chk_nats la (by omega) (by omega) hla15] at C1
                    have C2 := rcheck_any w9 (.slice (some ⟨gl, lit, none⟩) (Ln - lit) (capl - lit)) _ (da.map (fun (n : Nat) => (n : Int))) (SrcE.recode (enc' := intV) HSB.out (by rw [List.map_map]; rfl)) (by rw [List.length_map]; omega)
                    rw [chk_nats da (by omega) (by omega) hda15] at C2
                    have U1 := used5 w9 (.slice (some ⟨gl, lit, none⟩) (Ln - lit) (capl - lit)) _ da HSB.out (by omega)
                    obtain ⟨ca, hca⟩ : ∃ ca, ca = chkN la := ⟨_, rfl⟩
                    obtain ⟨cd, hcd⟩ : ∃ cd, cd = chkN da := ⟨_, rfl⟩
                    obtain ⟨U, hU⟩ : ∃ U, U = usedB da := ⟨_, rfl⟩
                    rw [← hca] at C1 HHD
                    rw [← hcd] at C2 HHD
                    rw [← hU] at U1 HHD
                    have HOK : Hid (ca = 0 → (U = true → cd = 0) → LenOk la ∧ LenOk da) := hid (fun h1 h2 => ⟨⟨by omega, hla15, chkN_measure (by omega)⟩, ⟨by omega, hda15, by
                      cases hUU : U with
                      | true => exact chkN_measure (by have := h2 hUU; omega)
                      | false => rw [unused_measure (by rw [← hU]; exact hUU)]; omega⟩⟩)
                    have HBAD : Hid (∀ b : Bool, Calls Tryz.prog 138 #[.pointer (some ⟨h, 0, none⟩), .bool b] w9 fun r w' => (∃ u, r = .returned u) ∧ RdB w' h v c2 vo most (badE 0 b) ∧ Kept (· = h) w9 w') := hid (fun b => ibad_any w9 h v c2 vo most 0 b HH9.out)
                    have HGOOD : Hid (∀ wF, head5 ls a = .ok ((la, da), c2 - a) → LenOk la ∧ LenOk da → RdB wF h v c2 vo most 0 → Kept (· = h) w9 wF → HeadA w wF h v vo most a ls (.returned (.tuple #[.slice (some ⟨gl, 0, none⟩) lit capl, .slice (some ⟨gl, lit, none⟩) (Ln - lit) (capl - lit)])) (head5 ls a) ∧ Kept (· = h) w wF) := hid (fun wF h1 h2 h3 h4 => by
                      rw [h1]
                      refine ⟨⟨_, _, rfl, ?_, ?_, HSA.out.kept h4 (fun k hk _ e => by unfold Over at hk; omega), HSB.out.kept h4 (fun k hk _ e => by unfold Over at hk; omega), h2.1, h2.2⟩, HK9.out.trans h4 (fun _ _ f => f) (fun _ _ f => f)⟩
                      · rw [show a + (c2 - a) = c2 by have := HD.out.2.1; omega]; exact h3
                      · have := HD.out.2.1; have := HM.out; omega)
                    have HFAIL : Hid (∀ (va vb : Value) (wF : World), head5 ls a = .error 52 → RdB wF h v c2 vo most 52 → Kept (· = h) w9 wF → HeadA w wF h v vo most a ls (.returned (.tuple #[va, vb])) (head5 ls a) ∧ Kept (· = h) w wF) := hid (fun va vb wF h1 h2 h3 => HERR.out 52 va vb c2 wF (by decide) h1 h2 hc2M (HK9.out.trans h3 (fun _ _ f => f) (fun _ _ f => f)))
                    clear hg6 hlal hdal hla15 hda15 hla hda hca hcd hU hx6 h256
                    by_cases hx60 : x6 = 0
                    · have HE : Hid (head5 ls a = .error 52) := hid (by rw [HHD.out, if_pos (.inl hx60)])
                      subst hx60
                      go_wp2_with fail
                      refine (HBAD.out true).mono ?_
                      rintro r w10 ⟨⟨u, rfl⟩, hh10, hk10⟩
                      rw [badE_true] at hh10
                      have HF10 : Hid (RdB w10 h v c2 vo most 52 ∧ Kept (· = h) w9 w10) := ⟨hh10, hk10⟩
                      clear hh10 hk10
                      go_wp2_with fail
                      go_ret2
                      exact HFAIL.out _ _ _ HE.out HF10.out.1 HF10.out.2
                    · have hx6d : ((x6 : Int) == 0) = false := by simp; omega
                      by_cases hca0 : ca = 0
                      · cases U with
                        | true =>
                          by_cases hcd0 : cd = 0
                          · have HE : Hid (head5 ls a = .ok ((la, da), c2 - a)) := hid (by rw [HHD.out, if_neg (by omega)])
                            have HLO : Hid (LenOk la ∧ LenOk da) := hid (HOK.out hca0 (fun _ => hcd0))
                            subst hca0 hcd0
                            go_wp2_with fail
                            refine C1.mono ?_
                            rintro r wx ⟨rfl, hwx⟩
                            subst hwx
                            go_wp2_with fail
                            refine U1.mono ?_
                            rintro r wx ⟨rfl, hwx⟩
                            subst hwx
                            go_wp2_with fail
                            refine C2.mono ?_
                            rintro r wx ⟨rfl, hwx⟩
                            subst hwx
                            go_wp2_with fail
                            refine (HBAD.out false).mono ?_
                            rintro r w10 ⟨⟨u, rfl⟩, hh10, hk10⟩
                            rw [badE_false] at hh10
                            have HF10 : Hid (RdB w10 h v c2 vo most 0 ∧ Kept (· = h) wx w10) := ⟨hh10, hk10⟩
                            clear hh10 hk10
                            go_wp2_with fail
                            go_ret2
                            exact HGOOD.out _ HE.out HLO.out HF10.out.1 HF10.out.2
                          · have HE : Hid (head5 ls a = .error 52) := hid (by rw [HHD.out, if_pos (.inr (.inr ⟨rfl, hcd0⟩))])
                            have hcdd : ((cd : Int) != 0) = true := by simp; omega
                            subst hca0
                            go_wp2_with fail
                            refine C1.mono ?_
                            rintro r wx ⟨rfl, hwx⟩
                            subst hwx
                            go_wp2_with fail
                            refine U1.mono ?_
                            rintro r wx ⟨rfl, hwx⟩
                            subst hwx
                            go_wp2_with fail
                            refine C2.mono ?_
                            rintro r wx ⟨rfl, hwx⟩
                            subst hwx
                            go_wp2_with fail
                            refine (HBAD.out true).mono ?_
                            rintro r w10 ⟨⟨u, rfl⟩, hh10, hk10⟩
                            rw [badE_true] at hh10
                            have HF10 : Hid (RdB w10 h v c2 vo most 52 ∧ Kept (· = h) wx w10) := ⟨hh10, hk10⟩
                            clear hh10 hk10
                            go_wp2_with fail
                            go_ret2
                            exact HFAIL.out _ _ _ HE.out HF10.out.1 HF10.out.2
                        | false =>
                          have HE : Hid (head5 ls a = .ok ((la, da), c2 - a)) := hid (by rw [HHD.out, if_neg (by simp; omega)])
                          have HLO : Hid (LenOk la ∧ LenOk da) := hid (HOK.out hca0 (fun h => by cases h))
                          subst hca0
                          go_wp2_with fail
                          refine C1.mono ?_
                          rintro r wx ⟨rfl, hwx⟩
                          subst hwx
                          go_wp2_with fail
                          refine U1.mono ?_
                          rintro r wx ⟨rfl, hwx⟩
                          subst hwx
                          go_wp2_with fail
                          refine (HBAD.out false).mono ?_
                          rintro r w10 ⟨⟨u, rfl⟩, hh10, hk10⟩
                          rw [badE_false] at hh10
                          have HF10 : Hid (RdB w10 h v c2 vo most 0 ∧ Kept (· = h) wx w10) := ⟨hh10, hk10⟩
                          clear hh10 hk10
                          go_wp2_with fail
                          go_ret2
                          exact HGOOD.out _ HE.out HLO.out HF10.out.1 HF10.out.2
                      · have HE : Hid (head5 ls a = .error 52) := hid (by rw [HHD.out, if_pos (.inr (.inl hca0))])
                        have hcad : ((ca : Int) != 0) = true := by simp; omega
                        go_wp2_with fail
                        refine C1.mono ?_
                        rintro r wx ⟨rfl, hwx⟩
                        subst hwx
                        go_wp2_with fail
                        refine (HBAD.out true).mono ?_
                        rintro r w10 ⟨⟨u, rfl⟩, hh10, hk10⟩
                        rw [badE_true] at hh10
                        have HF10 : Hid (RdB w10 h v c2 vo most 52 ∧ Kept (· = h) wx w10) := ⟨hh10, hk10⟩
                        clear hh10 hk10
                        go_wp2_with fail
                        go_ret2
                        exact HFAIL.out _ _ _ HE.out HF10.out.1 HF10.out.2
              · have HE : Hid (head5 ls a = .error e) := hid (HAB.out.wrong he)
                have hed : ((e : Int) == 0) = false := by simp; omega
                have hed2 : ((e : Int) != 0) = true := by simp; omega
                have HEN : Hid (e ≠ 0) := he
                have B1 : Hid (∀ b : Bool, Calls Tryz.prog 138 #[.pointer (some ⟨h, 0, none⟩), .bool b] wr fun r w' => (∃ u, r = .returned u) ∧ RdB w' h v c2 vo most e ∧ Kept (· = h) wr w') := hid (fun b => by
                  have h9 := ibad_any wr h v c2 vo most e b HHr.out
                  rw [badE_stuck he] at h9
                  exact h9)
                clear he
                go_wp2_with fail
                all_goals
                  refine (B1.out _).mono ?_
                  rintro r w9 ⟨⟨u, rfl⟩, hh9, hk9⟩
                  have HH9 : Hid (RdB w9 h v c2 vo most e) := hh9
                  have HK9 : Hid (Kept (· = h) w w9) := hid (HKr.out.trans hk9 (fun _ _ f => f) (fun _ _ f => f))
                  have k4' := HH9.out.cell 4
                  simp at k4'
                  clear hh9 hk9
                  go_wp2_with fail
                  go_ret2
                  exact HERR.out e _ _ c2 _ HEN.out HE.out HH9.out hc2M HK9.out
          · have HE : Hid (head5 ls a = .error 52) := hid (hCC.1 hck0)
            have hckd : ((ck : Int) != 0) = true := by simp; omega
            have B1 := ibad_any wr h v c vo most 0 true HHr.out
            rw [badE_true] at B1
            clear hCC hcq
            go_wp2_with fail
            refine HCK.mono ?_
            rintro r wx ⟨rfl, hwx⟩
            subst hwx
            go_wp2_with fail
            refine B1.mono ?_
            rintro r w7 ⟨⟨u, rfl⟩, hh7, hk7⟩
            have HH7 : Hid (RdB w7 h v c vo most 52) := hh7
            have HK7 : Hid (Kept (· = h) w w7) := hid (HKr.out.trans hk7 (fun _ _ f => f) (fun _ _ f => f))
            have k4' := HH7.out.cell 4
            simp at k4'
            clear hh7 hk7 B1
            go_wp2_with fail
            go_ret2
            exact HERR.out 52 _ _ c _ (by decide) HE.out HH7.out hcM HK7.out
      · have HE : Hid (head5 ls a = .error e) := hid (by
          rcases HCr.out with ⟨_, h2⟩ | ⟨h1, _⟩
          · exact h2
          · exact absurd h1 he)
        have hed : ((e : Int) == 0) = false := by simp; omega
        have hed2 : ((e : Int) != 0) = true := by simp; omega
        have HEN : Hid (e ≠ 0) := he
        have B1 : Hid (∀ b : Bool, Calls Tryz.prog 138 #[.pointer (some ⟨h, 0, none⟩), .bool b] wr fun r w' => (∃ u, r = .returned u) ∧ RdB w' h v c vo most e ∧ Kept (· = h) wr w') := hid (fun b => by
          have h9 := ibad_any wr h v c vo most e b HHr.out
          rw [badE_stuck he] at h9
          exact h9)
        clear he
        go_wp2_with fail
        all_goals
          refine HCK.mono ?_
          rintro r wx ⟨rfl, hwx⟩
          subst hwx
          go_wp2_with fail
          refine (B1.out _).mono ?_
          rintro r w7 ⟨⟨u, rfl⟩, hh7, hk7⟩
          have HH7 : Hid (RdB w7 h v c vo most e) := hh7
          have HK7 : Hid (Kept (· = h) w w7) := hid (HKr.out.trans hk7 (fun _ _ f => f) (fun _ _ f => f))
          have k4' := HH7.out.cell 4
          simp at k4'
          clear hh7 hk7
          go_wp2_with fail
          go_ret2
          exact HERR.out e _ _ c _ HEN.out HE.out HH7.out hcM HK7.out

end Go.Proofs.YtggcbnhckcenmaaGreatDoor

/-
  The reference's layer 5: Read, and Inflate.
-/
namespace Go.Proofs.YtggcbnhckcenmaaGreatDoor
open Go.RowKit

theorem blk5_of {ls : List Nat} {most : Nat} {s s1 s2 : S5} {l k : Nat} (t1 : tk ls s 1 = (l, s1)) (t2 : tk ls s1 2 = (k, s2)) :
    (s2.e ≠ 0 → blk5 ls most s = (l, s2)) ∧ (s2.e = 0 → k = 0 → blk5 ls most s = (l, stored5 ls most s2)) ∧ (s2.e = 0 → k = 1 → blk5 ls most s = (l, syms5 ls most fixL fixD (ls.length + 1) s2)) ∧
    (s2.e = 0 → k = 2 → ∀ e, head5 ls s2.c = .error e → blk5 ls most s = (l, { s2 with e := e })) ∧ (s2.e = 0 → k = 2 → ∀ x d n, head5 ls s2.c = .ok ((x, d), n) → blk5 ls most s = (l, syms5 ls most x d (ls.length + 1) { s2 with c := s2.c + n })) ∧
    (s2.e = 0 → k ≠ 0 → k ≠ 1 → k ≠ 2 → blk5 ls most s = (l, { s2 with e := 50 })) := by
  unfold blk5
  simp only [t1, t2]
  refine ⟨fun h => by rw [if_pos h], fun h hk => by rw [if_neg (fun x => x h), if_pos hk], fun h hk => ?_, fun h hk e he => ?_, fun h hk x d n he => ?_, fun h k0 k1 k2 => by rw [if_neg (fun x => x h), if_neg k0, if_neg k1, if_neg k2]⟩
  · subst hk; rw [if_neg (fun x => x h), if_neg (by decide), if_pos rfl]
  · subst hk; rw [if_neg (fun x => x h), if_neg (by decide), if_neg (by decide), if_pos rfl]; simp only [he]
  · subst hk; rw [if_neg (fun x => x h), if_neg (by decide), if_neg (by decide), if_pos rfl]; simp only [he]

/-- What a state of the loop tells of all. -/
def RdL (ls : List Nat) (most l f : Nat) (s : S5) : Prop := (l = 0 ∧ infl5 ls most = read5 ls most f s ∧ (s.e = 0 → ls.length - s.c < f)) ∨ (l ≠ 0 ∧ infl5 ls most = s)

theorem RdL.stuck {ls : List Nat} {most l f : Nat} {s : S5} (h : RdL ls most l f s) (he : l ≠ 0 ∨ s.e ≠ 0) : infl5 ls most = s := by
  rcases h with ⟨h0, h1, _⟩ | ⟨_, h1⟩
  · rw [h1]
    have h9 : s.e ≠ 0 := he.resolve_left (fun h => h h0)
    cases f with
    | zero => rfl
    | succ f => unfold read5; rw [if_pos h9]
  · exact h1

theorem RdL.next {ls : List Nat} (hb : ∀ b ∈ ls, b < 2) {most l l' f : Nat} {s s' : S5} (h : RdL ls most l f s) (h0 : l = 0) (he : s.e = 0) (ho : s.out.length ≤ most) (hblk : blk5 ls most s = (l', s')) : 1 ≤ f ∧ RdL ls most l' (f - 1) s' := by
  rcases h with ⟨_, h1, h2⟩ | ⟨h9, _⟩
  · have hf := h2 he
    obtain ⟨f, rfl⟩ : ∃ g, f = g + 1 := ⟨f - 1, by omega⟩
    refine ⟨by omega, ?_⟩
    unfold read5 at h1
    rw [if_neg (by omega), hblk] at h1
    simp only at h1
    rw [Nat.add_sub_cancel]
    by_cases hl : l' = 0
    · rw [if_pos hl] at h1
      refine .inl ⟨hl, h1, fun he' => ?_⟩
      have hs := blk_says ls hb most s he ho
      rw [hblk] at hs
      rcases hs with ⟨_, h4, h5, _⟩ | ⟨h4, _⟩
      · simp only at h4 h5; omega
      · exact absurd he' h4
    · rw [if_neg hl] at h1
      exact .inr ⟨hl, h1⟩
  · exact absurd h0 h9

theorem SrcE.inn {α : Type} {enc : α → Value} {w : World} {I : Nat → Prop} {v : Value} {xs : List α} (h : SrcE enc w I v xs) : SrcE enc w (fun k => I k ∧ k < w.heap.size) v xs := by
  obtain ⟨ao, cap, h1, h2, h3⟩ := h
  refine ⟨ao, cap, h1, h2, fun hne => ?_⟩
  obtain ⟨b, o, h4, h5, h6⟩ := h3 hne
  have hpos : 0 < xs.length := by cases xs with | nil => exact absurd rfl hne | cons _ _ => simp
  exact ⟨b, o, h4, ⟨h5, World.block_lt_of_cell? w _ (h6 0 hpos)⟩, h6⟩

theorem fix_lst : fixL.length ≤ 288 ∧ (∀ n ∈ fixL, n ≤ 15) ∧ measure fixL ≤ 32768 ∧ fixD.length ≤ 288 ∧ (∀ n ∈ fixD, n ≤ 15) ∧ measure fixD ≤ 32768 := by
  refine ⟨by decide +kernel, by decide +kernel, by decide +kernel, by decide +kernel, by decide +kernel, by decide +kernel⟩

theorem RS.out_lt {w : World} {I G : Nat → Prop} {h : Nat} {v : Value} {ls : List Nat} {most : Nat} {s : S5} {c : Nat} {vo : Value} (r : RS w I G h v ls most s c vo) : ∀ k, vo.ownBlock = some k → k < w.heap.size := fun _ e => r.row.lt e

/-- What Read leaves. -/
structure ReadR (w w' : World) (h : Nat) (vb : Value) (c : Nat) (vo : Value) (most : Nat) (ls : List Nat) (s : S5) : Prop where
  blk : RdB w' h vb c vo most s.e
  row : Row w' vo s.out
  pl : s.e = 0 → c = s.c
  le : c ≤ ls.length
  ol : s.out.length ≤ most
  by' : ∀ b ∈ s.out, b < 256
  same : Same w w'
  hnew : w.heap.size ≤ h
  onew : ∀ k, vo.ownBlock = some k → w.heap.size ≤ k
  ne : vo.ownBlock ≠ some h

set_option maxRecDepth 100000 in
set_option maxHeartbeats 8000000 in
theorem read5_any (w : World) (v : Value) (I : Nat → Prop) (bs : List Nat) (most : Nat) (hs : Src w I v bs) (hb : ∀ b ∈ bs, b < 256) (hlen : bs.length ≤ 100000) (hm : most ≤ 16384) :
    Calls Tryz.prog 64 #[v, .int .i64 (most : Nat)] w fun x w' => ∃ h vb c vo, x = .returned (.pointer (some ⟨h, 0, none⟩)) ∧ ReadR w w' h vb c vo most (ofBytes bs) (infl5 (ofBytes bs) most) := by
  have HOF := refOf_any w v I bs hs (by omega) hb
  obtain ⟨ls, hls⟩ : ∃ ls, ls = ofBytes bs := ⟨_, rfl⟩
  have hl8 : ls.length = 8 * bs.length := by rw [hls, ofBytes_length]
  have hz : Sz ls most := ⟨by rw [hls]; exact ofBytes_lt bs, by omega, by omega⟩
  have HZ : Hid (Sz ls most) := hz
  have H8 : Hid (ls.length % 8 = 0) := hid (by omega)
  rw [← hls] at HOF ⊢
  obtain ⟨M, hM⟩ : ∃ M, M = ls.length := ⟨_, rfl⟩
  have HM : Hid (M = ls.length) := hM
  clear hs hb hls hl8 hz hM hlen
  go_enter Tryz.func64, Tryz.ntmps64
  go_wp2_with fail
  refine HOF.mono ?_
  rintro x w1 ⟨vb, rfl, hg1⟩
  have hk1 : Same w w1 := hg1.kept.mono (fun _ _ e => by cases e)
  have HK1 : Hid (Same w w1) := hk1
  have HB1 : Hid (Row w1 vb ls) := hid hg1.row
  obtain ⟨ab, cb, hvb, _⟩ := hg1.row.shape
  generalize ls.length = nb at hvb
  subst hvb
  obtain ⟨h, hh⟩ : ∃ h, h = w1.heap.size := ⟨_, rfl⟩
  have HG0 : Hid (RX (w1.alloc (.cells #[.slice ab nb cb, .int .i64 0, .slice none 0 0, .int .i64 (most : Nat), .int .i64 0] 87)) (fun k => (Value.slice ab nb cb).ownBlock = some k) (fun k => k < w1.heap.size) h (.slice ab nb cb) ls most ⟨0, [], 0⟩) := hid ⟨0, .slice none 0 0, by rw [hh]; exact Blk.new w1 _ _, World.ownsRow_nil _ 0 5 1, (by intro e; cases e), (by omega), (fun k e => by cases e), (fun k hk => by simp; omega), Src.ofRow (HB1.out.kept ((Kept.refl (fun _ => False) w1).alloc _) (fun _ _ f => f)), (fun k e => HB1.out.lt e), (fun _ => rfl), Nat.zero_le _, Nat.zero_le _, (fun b hb => by simp at hb)⟩
  obtain ⟨G, hG⟩ : ∃ G : Nat → Prop, G = fun k => k < w1.heap.size := ⟨_, rfl⟩
  obtain ⟨J, hJ⟩ : ∃ J : Nat → Prop, J = fun k => (Value.slice ab nb cb).ownBlock = some k := ⟨_, rfl⟩
  rw [← hG, ← hJ] at HG0
  obtain ⟨W2, hW2⟩ : ∃ W, W = w1.alloc (.cells #[.slice ab nb cb, .int .i64 0, .slice none 0 0, .int .i64 (most : Nat), .int .i64 0] 87) := ⟨_, rfl⟩
  rw [← hW2] at HG0
  have HK2 : Hid (Same w W2) := hid (by rw [hW2]; exact Same.trans HK1.out ((Kept.refl _ w1).alloc _))
  have HGG : Hid (∀ k, k < w.heap.size → G k) := hid (fun k hk => by rw [hG]; have := HK1.out.size; show k < w1.heap.size; omega)
  have HHN : Hid (w.heap.size ≤ h) := hid (by have := HK1.out.size; omega)
  have HL0 : Hid (RdL ls most 0 (M + 1) ⟨0, [], 0⟩) := hid (.inl ⟨rfl, by unfold infl5; rw [HM.out], fun _ => by have := HM.out; simp only; omega⟩)
  have HSM : Hid (∀ wx, KG G W2 wx → Same w wx) := hid (fun wx hk => Same.then HK2.out hk (fun k hk9 f => f (HGG.out k hk9)))
  have HFIN : Hid (∀ wx s, RX wx J G h (.slice ab nb cb) ls most s → KG G W2 wx → infl5 ls most = s → ∃ h' vb c vo, Ending.returned (Value.pointer (some ⟨h, 0, none⟩)) = .returned (.pointer (some ⟨h', 0, none⟩)) ∧ ReadR w wx h' vb c vo most ls (infl5 ls most)) := hid (fun wx s hx hk he => by
    obtain ⟨c, vo, r⟩ := hx
    rw [he]
    exact ⟨h, _, c, vo, rfl, r.blk, r.row, r.pl, r.le, r.ol, r.by', HSM.out wx hk, HHN.out, fun k e => Nat.not_lt.1 (fun hlt => r.go k e (HGG.out k hlt)), r.ne⟩)
  clear hk1 hg1 HOF
  go_wp2_with fail
  rw [← hW2, ← hh]
  clear hh hW2 hG hJ
  go_loopg [6] (M + 1) (fun q zl wr => ∃ (l f : Nat) (s : S5), zl = .int .i64 (l : Nat) ∧ f ≤ q ∧ Hid (RdL ls most l f s) ∧ Hid (RX wr J G h (.slice ab nb cb) ls most s) ∧ Hid (KG G W2 wr))
  case atStart => exact ⟨0, M + 1, ⟨0, [], 0⟩, rfl, Nat.le_refl _, HL0, HG0, Kept.refl _ _⟩
  case round =>
    clear HL0 HG0
    obtain ⟨l, f, s, rfl, hfq, HL, HR, HK⟩ := hrel
    obtain ⟨k4, f4⟩ := HR.out.err
    by_cases hl : l = 0
    · subst hl
      by_cases he : s.e = 0
      · have T1 := take5 wr J G h _ ls most s 1 HZ.out (by decide) HR.out
        obtain ⟨l1, s1, ht1⟩ : ∃ l1 s1, tk ls s 1 = (l1, s1) := ⟨_, _, rfl⟩
        obtain ⟨k2, s2, ht2⟩ : ∃ k2 s2, tk ls s1 2 = (k2, s2) := ⟨_, _, rfl⟩
        have HBO := hid (blk5_of (most := most) ht1 ht2)
        have hk2b := tk_lt ls HZ.out.bit s1 2
        have HE0 : Hid (s.e = 0) := he
        have HOL : Hid (s.out.length ≤ most) := hid HR.out.outs.1
        have HNX : Hid (∀ l' s', blk5 ls most s = (l', s') → 1 ≤ f ∧ RdL ls most l' (f - 1) s') := hid (fun l' s' hb9 => HL.out.next HZ.out.bit rfl HE0.out HOL.out hb9)
        rw [ht1] at T1
        rw [ht2] at hk2b
        have hk24 : k2 < 4 := hk2b
        rw [he] at k4
        clear hk2b he
        have HT2 : Hid (tk ls s1 2 = (k2, s2)) := ht2
        clear ht1 ht2
        go_wp2_with fail
        refine T1.mono ?_
        rintro x w2 ⟨rfl, hr2, hk2⟩
        have HK2' : Hid (KG G W2 w2) := hid (HK.out.trans hk2)
        have T2 := take5 w2 J G h _ ls most s1 2 HZ.out (by decide) hr2
        rw [HT2.out] at T2
        clear hr2 hk2 T1 HR HK k4 f4
        go_wp2_with fail
        refine T2.mono ?_
        rintro x w3 ⟨rfl, hr3, hk3⟩
        have HK3 : Hid (KG G W2 w3) := hid (HK2'.out.trans hk3)
        have HR3 : Hid (RX w3 J G h (.slice ab nb cb) ls most s2) := hr3
        obtain ⟨k4, f4⟩ := hr3.err
        clear hr3 hk3 T2 HK2'
        by_cases he2 : s2.e = 0
        · have HE2 : Hid (s2.e = 0) := he2
          rw [he2] at k4
          clear he2
          by_cases hk0 : k2 = 0
          · subst hk0
            have S1 := stored5_any w3 J G h _ ls most s2 HZ.out H8.out HE2.out HR3.out
            have HBK : Hid (blk5 ls most s = (l1, stored5 ls most s2)) := hid (HBO.out.2.1 HE2.out rfl)
            go_wp2_with fail
            refine S1.mono ?_
            rintro x w4 ⟨⟨u, rfl⟩, hr4, hk4⟩
            have HR4 : Hid (RX w4 J G h (.slice ab nb cb) ls most (stored5 ls most s2)) := hr4
            have HK4 : Hid (KG G W2 w4) := hid (HK3.out.trans hk4)
            have HN4 := hid (HNX.out _ _ HBK.out)
            clear hr4 hk4 S1
            go_wp2_with fail
            go_roundg (gk - 1)
            case measure => have := HN4.out.1; omega
            case rel => exact ⟨l1, f - 1, _, rfl, by omega, hid HN4.out.2, HR4, HK4⟩
          · have hk0d : ((k2 : Int) == 0) = false := by simp; omega
            by_cases hk1 : k2 = 1
            · subst hk1
              have F1 := fixed5 w3
              have HBK : Hid (blk5 ls most s = (l1, syms5 ls most fixL fixD (ls.length + 1) s2)) := hid (HBO.out.2.2.1 HE2.out rfl)
              clear hk0
              go_wp2_with fail
              refine F1.mono ?_
              rintro x w4 ⟨va, vd, rfl, hra, hrd, hk4⟩
              obtain ⟨c3, vo3, hrs3⟩ := HR3.out
              have hr4 := hrs3.same hk4
              have HGO : Hid (∀ k, G k → RS.all w4 h vo3 k) := hid (fun k g => hr4.all_of k g)
              have HIG : Hid (∀ k, J k → G k) := hid hr4.ig
              have hhl : h < w3.heap.size := hrs3.blk.lt
              have hol := hrs3.out_lt
              have HLA : Lst w4 (RS.all w4 h vo3) va fixL := ⟨⟨_, SrcE.inn (SrcE.ofRow hra), fun k hk => ⟨hk.2, by have := hra.ge hk.1; omega, fun e => by have := hra.ge hk.1; have := hol k e; omega⟩⟩, fix_lst.1, fix_lst.2.1, fix_lst.2.2.1⟩
              have HLD : Lst w4 (RS.all w4 h vo3) vd fixD := ⟨⟨_, SrcE.inn (SrcE.ofRow hrd), fun k hk => ⟨hk.2, by have := hrd.ge hk.1; omega, fun e => by have := hrd.ge hk.1; have := hol k e; omega⟩⟩, fix_lst.2.2.2.1, fix_lst.2.2.2.2.1, fix_lst.2.2.2.2.2⟩
              have HK4 : Hid (KG G W2 w4) := hid (HK3.out.trans (KG.same hk4))
              have S1 := symbols5 w w4 J (RS.all w4 h vo3) h _ ls most s2 va vd fixL fixD HZ.out ⟨c3, vo3, hr4.more⟩ (HSM.out w4 HK4.out) (fun k hk => HGO.out k (HGG.out k hk)) (fun _ => ⟨HLA, HLD⟩)
              obtain ⟨aa, ca, hva, _⟩ := hra.shape
              generalize fixL.length = na at hva
              subst hva
              obtain ⟨ad, cd, hvd, _⟩ := hrd.shape
              generalize fixD.length = nd at hvd
              subst hvd
              clear hra hrd hk4 hrs3 hr4 hhl hol HLA HLD F1
              go_wp2_with fail
              refine S1.mono ?_
              rintro x w5 ⟨⟨u, rfl⟩, hr5, hk5⟩
              have HR5 : Hid (RX w5 J G h (.slice ab nb cb) ls most (syms5 ls most fixL fixD (ls.length + 1) s2)) := hid (by
                obtain ⟨c5, vo5, r5⟩ := hr5
                exact ⟨c5, vo5, r5.weak HGO.out HIG.out⟩)
              have HK5 : Hid (KG G W2 w5) := hid (HK4.out.trans (KG.less hk5 HGO.out))
              have HN4 := hid (HNX.out _ _ HBK.out)
              clear hr5 hk5 S1
              go_wp2_with fail
              go_roundg (gk - 1)
              case measure => have := HN4.out.1; omega
              case rel => exact ⟨l1, f - 1, _, rfl, by omega, hid HN4.out.2, HR5, HK5⟩
            · have hk1d : ((k2 : Int) == 1) = false := by simp; omega
              by_cases hk2 : k2 = 2
              · subst hk2
                obtain ⟨c3, vo3, hrs3⟩ := HR3.out
                obtain ⟨sc, so, se⟩ := s2
                have hse : se = 0 := HE2.out
                subst hse
                have hcc : c3 = sc := hrs3.pl rfl
                subst hcc
                have hhl : h < w3.heap.size := hrs3.blk.lt
                have hol := hrs3.out_lt
                have HD := head5_any w w3 J G h _ ls most c3 so vo3 HZ.out hrs3 (HSM.out w3 HK3.out) HHN.out
                have HRS : Hid (RS w3 J G h (.slice ab nb cb) ls most ⟨c3, so, 0⟩ c3 vo3) := hrs3
                have HHL : Hid (h < w3.heap.size) := hhl
                have HOL3 : Hid (∀ k, vo3.ownBlock = some k → k < w3.heap.size) := hol
                clear hk0 hk1 hrs3 hhl hol
                go_wp2_with fail
                refine HD.mono ?_
                rintro x w4 ⟨hha, hk4⟩
                have HK4 : Hid (KG G W2 w4) := hid (HK3.out.trans (HRS.out.kg hk4))
                cases hh5 : head5 ls c3 with
                | error e =>
                  rw [hh5] at hha
                  obtain ⟨hne, va, vd, c4, rfl, hb4, hc4⟩ := hha
                  have HBK : Hid (blk5 ls most s = (l1, ⟨c3, so, e⟩)) := hid (HBO.out.2.2.2.1 (by first | rfl | trivial) (by first | rfl | trivial) e hh5)
                  have hr4 : RS w4 J G h (.slice ab nb cb) ls most ⟨c4, so, e⟩ c4 vo3 := HRS.out.turn hk4 hb4 (fun _ => rfl) hc4
                  have hr4' : RX w4 J G h (.slice ab nb cb) ls most ⟨c3, so, e⟩ := ⟨c4, vo3, hr4.blk, hr4.row, hr4.ne, hr4.gh, hr4.go, hr4.lt, hr4.src, hr4.ig, fun h9 => absurd h9 hne, hr4.le, hr4.ol, hr4.by'⟩
                  have S1 := symbols5 w w4 J G h _ ls most ⟨c3, so, e⟩ va vd [] [] HZ.out hr4' (HSM.out w4 HK4.out) HGG.out (fun h9 => absurd h9 hne)
                  rw [syms_stuck _ _ _ _ _ _ hne] at S1
                  clear hb4 hc4 hr4 hr4' hh5 hne hk4 HD
                  go_wp2_with fail
                  refine S1.mono ?_
                  rintro x w5 ⟨⟨u, rfl⟩, hr5, hk5⟩
                  have HR5 : Hid (RX w5 J G h (.slice ab nb cb) ls most ⟨c3, so, e⟩) := hr5
                  have HK5 : Hid (KG G W2 w5) := hid (HK4.out.trans hk5)
                  have HN4 := hid (HNX.out _ _ HBK.out)
                  clear hr5 hk5 S1
                  go_wp2_with fail
                  go_roundg (gk - 1)
                  case measure => have := HN4.out.1; omega
                  case rel => exact ⟨l1, f - 1, _, rfl, by omega, hid HN4.out.2, HR5, HK5⟩
                | ok y =>
                  obtain ⟨⟨xl, xd⟩, n⟩ := y
                  rw [hh5] at hha
                  obtain ⟨va, vd, rfl, hb4, hc4, hsa, hsd, hla, hld⟩ := hha
                  have HBK : Hid (blk5 ls most s = (l1, syms5 ls most xl xd (ls.length + 1) ⟨c3 + n, so, 0⟩)) := hid (HBO.out.2.2.2.2.1 (by first | rfl | trivial) (by first | rfl | trivial) xl xd n hh5)
                  have hr4 : RS w4 J G h (.slice ab nb cb) ls most ⟨c3 + n, so, 0⟩ (c3 + n) vo3 := HRS.out.turn hk4 hb4 (fun _ => rfl) hc4
                  have HGO : Hid (∀ k, G k → RS.all w4 h vo3 k) := hid (fun k g => hr4.all_of k g)
                  have HIG : Hid (∀ k, J k → G k) := hid hr4.ig
                  have HLA : Lst w4 (RS.all w4 h vo3) va xl := ⟨⟨_, SrcE.inn hsa, fun k hk => ⟨hk.2, by have := hk.1; have := HHL.out; unfold Over at *; omega, fun e => by have := hk.1; have := HOL3.out k e; unfold Over at *; omega⟩⟩, hla.1, hla.2.1, hla.2.2⟩
                  have HLD : Lst w4 (RS.all w4 h vo3) vd xd := ⟨⟨_, SrcE.inn hsd, fun k hk => ⟨hk.2, by have := hk.1; have := HHL.out; unfold Over at *; omega, fun e => by have := hk.1; have := HOL3.out k e; unfold Over at *; omega⟩⟩, hld.1, hld.2.1, hld.2.2⟩
                  have S1 := symbols5 w w4 J (RS.all w4 h vo3) h _ ls most ⟨c3 + n, so, 0⟩ va vd xl xd HZ.out ⟨c3 + n, vo3, hr4.more⟩ (HSM.out w4 HK4.out) (fun k hk => HGO.out k (HGG.out k hk)) (fun _ => ⟨HLA, HLD⟩)
                  clear hb4 hc4 hr4 hh5 hsa hsd hla hld HLA HLD hk4 HD
                  go_wp2_with fail
                  refine S1.mono ?_
                  rintro x w5 ⟨⟨u, rfl⟩, hr5, hk5⟩
                  have HR5 : Hid (RX w5 J G h (.slice ab nb cb) ls most (syms5 ls most xl xd (ls.length + 1) ⟨c3 + n, so, 0⟩)) := hid (by
                    obtain ⟨c5, vo5, r5⟩ := hr5
                    exact ⟨c5, vo5, r5.weak HGO.out HIG.out⟩)
                  have HK5 : Hid (KG G W2 w5) := hid (HK4.out.trans (KG.less hk5 HGO.out))
                  have HN4 := hid (HNX.out _ _ HBK.out)
                  clear hr5 hk5 S1
                  go_wp2_with fail
                  go_roundg (gk - 1)
                  case measure => have := HN4.out.1; omega
                  case rel => exact ⟨l1, f - 1, _, rfl, by omega, hid HN4.out.2, HR5, HK5⟩
              · have hk2d : ((k2 : Int) == 2) = false := by simp; omega
                have HBK : Hid (blk5 ls most s = (l1, { s2 with e := 50 })) := hid (HBO.out.2.2.2.2.2 HE2.out hk0 hk1 hk2)
                have hw := HR3.out.wrong 50 (by decide)
                have HW := hid hw
                have HN4 := hid (HNX.out _ _ HBK.out)
                clear hk0 hk1 hk2 hw
                go_wp2_with fail
                go_roundg (gk - 1)
                case measure => have := HN4.out.1; omega
                case rel => exact ⟨l1, f - 1, _, rfl, by omega, hid HN4.out.2, hid HW.out.1, hid (HK3.out.trans HW.out.2)⟩
        · have HBK : Hid (blk5 ls most s = (l1, s2)) := hid (HBO.out.1 he2)
          have HSG : Hid (infl5 ls most = s2) := hid ((HNX.out _ _ HBK.out).2.stuck (.inr he2))
          obtain ⟨e7, he7⟩ : ∃ e7, e7 = s2.e := ⟨_, rfl⟩
          rw [← he7] at he2 k4
          have hed : ((e7 : Int) != 0) = true := by simp; omega
          clear he7
          go_wp2_with fail
          go_ret
          exact HFIN.out _ _ HR3.out HK3.out HSG.out
      · have HSG : Hid (infl5 ls most = s) := hid (HL.out.stuck (.inr he))
        obtain ⟨e7, he7⟩ : ∃ e7, e7 = s.e := ⟨_, rfl⟩
        rw [← he7] at he k4
        have hed : ((e7 : Int) == 0) = false := by simp; omega
        clear he7
        go_wp2_with fail
        go_ret
        exact HFIN.out _ _ HR.out HK.out HSG.out
    · have HSG : Hid (infl5 ls most = s) := hid (HL.out.stuck (.inl hl))
      have hld : ((l : Int) == 0) = false := by simp; omega
      clear hl
      go_wp2_with fail
      go_ret
      exact HFIN.out _ _ HR.out HK.out HSG.out

end Go.Proofs.YtggcbnhckcenmaaGreatDoor

/-
  The reference's layer 5: Inflate.
-/
namespace Go.Proofs.YtggcbnhckcenmaaGreatDoor
open Go.RowKit

/-- What Read says of bytes, by steps. -/
theorem read_by {P : List Nat} {most : Nat} {t : Ps} {er : Nat} (h : Ends (ofBytes P) most ps0 t er) : (infl5 (ofBytes P) most).e = er ∧ (er = 0 ∨ er = 55 → (infl5 (ofBytes P) most).out = t.out) ∧ (er = 0 → (infl5 (ofBytes P) most).c = t.c) := by
  obtain ⟨t0, h1, h2, h3⟩ := infl_says (ofBytes P) (ofBytes_lt P) most
  obtain ⟨rfl, rfl⟩ := h1.det h
  exact ⟨rfl, fun h9 => (h2 h9).symm, fun h9 => (h3 h9).symm⟩

/-- What the reference's Inflate answers. -/
inductive RInf (w w' : World) (cs : List Nat) (most : Nat) (x : Ending) : Prop
  | done (t : Ps) (v' : Value) (he : Ends (ofBytes cs) most ps0 t 0) (hx : x = .returned (.tuple #[v', .int .i64 (((t.c + 7) / 8 : Nat) : Int), .int .i64 0])) (hr : Row w' v' t.out) (hv : ∀ k, v'.ownBlock = some k → w.heap.size ≤ k) (hk : Same w w')
  | fail (t : Ps) (er : Nat) (he : Ends (ofBytes cs) most ps0 t er) (h0 : er ≠ 0) (hx : x = .returned (.tuple #[.slice none 0 0, .int .i64 0, .int .i64 (er : Nat)])) (hk : Same w w')

theorem RInf.is {w w' : World} {cs : List Nat} {most : Nat} {x : Ending} {t0 : Ps} (h : RInf w w' cs most x) (he : Ends (ofBytes cs) most ps0 t0 0) : ∃ v', x = .returned (.tuple #[v', .int .i64 (((t0.c + 7) / 8 : Nat) : Int), .int .i64 0]) ∧ Row w' v' t0.out ∧ (∀ k, v'.ownBlock = some k → w.heap.size ≤ k) ∧ Same w w' := by
  cases h with
  | done t v' he' hx hr hv hk =>
    obtain ⟨rfl, _⟩ := he'.det he
    exact ⟨v', hx, hr, hv, hk⟩
  | fail t er he' h0 hx hk => exact absurd (he'.det he).2 h0

theorem RInf.not {w w' : World} {cs : List Nat} {most : Nat} {x : Ending} {t0 : Ps} {er0 : Nat} (h : RInf w w' cs most x) (he : Ends (ofBytes cs) most ps0 t0 er0) (h0 : er0 ≠ 0) : x = .returned (.tuple #[.slice none 0 0, .int .i64 0, .int .i64 (er0 : Nat)]) ∧ Same w w' := by
  cases h with
  | done t v' he' hx hr hv hk => exact absurd (he'.det he).2.symm h0
  | fail t er he' _ hx hk =>
    obtain ⟨_, rfl⟩ := he'.det he
    exact ⟨hx, hk⟩

set_option maxHeartbeats 1000000 in
theorem rinfl_bad (w : World) (v : Value) (m : Int) (h : m < 0 ∨ 16384 < m) : Calls Tryz.prog 39 #[v, .int .i64 m] w fun x w' => x = .returned (.tuple #[.slice none 0 0, .int .i64 0, .int .i64 1]) ∧ Same w w' := by
  by_cases h0 : m < 0
  · have b1 : decide (m < 0) = true := by simp; omega
    clear h h0
    go_enter Tryz.func39, Tryz.ntmps39
    go_wp2_with fail
    refine bodyPost_ret (v := .tuple #[.slice none 0 0, .int .i64 0, .int .i64 1]) (by simp [results, Tryz.results39, go_sem]) rfl ?_
    exact ⟨rfl, Kept.refl _ _⟩
  · have b1 : decide (m < 0) = false := by simp; omega
    have b2 : decide (16384 < m) = true := by simp; omega
    clear h h0
    go_enter Tryz.func39, Tryz.ntmps39
    go_wp2_with fail
    refine bodyPost_ret (v := .tuple #[.slice none 0 0, .int .i64 0, .int .i64 1]) (by simp [results, Tryz.results39, go_sem]) rfl ?_
    exact ⟨rfl, Kept.refl _ _⟩

set_option maxRecDepth 100000 in
set_option maxHeartbeats 2000000 in
theorem rinfl_any (w : World) (v : Value) (I : Nat → Prop) (cs : List Nat) (most : Nat) (hv : Src w I v cs) (hb : ∀ b ∈ cs, b < 256) (hlen : cs.length ≤ 100000) (hm : most ≤ 16384) :
    Calls Tryz.prog 39 #[v, .int .i64 (most : Nat)] w fun x w' => RInf w w' cs most x := by
  have HRD := read5_any w v I cs most hv hb hlen hm
  have b1 : decide ((most : Int) < 0) = false := by simp
  have b2 : decide ((16384 : Int) < (most : Int)) = false := by simp; omega
  clear hv hb
  go_enter Tryz.func39, Tryz.ntmps39
  go_wp2_with fail
  refine HRD.mono ?_
  rintro x w1 ⟨h, vb, c, vo, rfl, hr⟩
  obtain ⟨t, he, ho, hc⟩ := infl_says (ofBytes cs) (ofBytes_lt cs) most
  have k1 := hr.blk.cell 1
  have k2 := hr.blk.cell 2
  have k4 := hr.blk.cell 4
  simp at k1 k2 k4
  have HSM : Hid (Same w w1) := hid hr.same
  obtain ⟨er, her⟩ : ∃ er, (infl5 (ofBytes cs) most).e = er := ⟨_, rfl⟩
  rw [her] at k4 he ho hc
  by_cases h0 : er = 0
  · subst h0
    have HR : Hid (Row w1 vo t.out ∧ ∀ k, vo.ownBlock = some k → w.heap.size ≤ k) := hid ⟨by rw [ho (.inl rfl)]; exact hr.row, hr.onew⟩
    have HE : Hid (Ends (ofBytes cs) most ps0 t 0) := he
    have hce : c = t.c := by rw [hr.pl her, hc rfl]
    have hcb : c ≤ 800000 := by have := hr.le; rw [ofBytes_length] at this; omega
    obtain ⟨s7, hs7⟩ : ∃ s, s = c + 7 := ⟨_, rfl⟩
    obtain ⟨q, hq⟩ : ∃ q, q = s7 / 8 := ⟨_, rfl⟩
    have q1 : (c : Int) + 7 = (s7 : Int) := by omega
    have q2 : IntKind.i64.wrap (s7 : Int) = (s7 : Int) := by rw [IntKind.wrap_i64]; omega
    have q3 : (s7 : Int) / 8 = (q : Int) := by omega
    have q4 : Int.tdiv (s7 : Int) 8 = (q : Int) := by rw [Int.tdiv_eq_ediv_of_nonneg (by omega)]; exact q3
    have q5 : IntKind.i64.wrap (q : Int) = (q : Int) := by rw [IntKind.wrap_i64]; omega
    have HQ : Hid (q = (t.c + 7) / 8) := hid (by rw [hq, hs7, hce])
    obtain ⟨a2, c2, hv2, _⟩ := HR.out.1.shape
    generalize t.out.length = n2 at hv2
    subst hv2
    clear hr he ho hc her hce hcb hs7 hq HRD
    go_wp2_with fail
    go_quiet (fail)
    go_wp2_with fail
    refine bodyPost_ret (v := .tuple #[.slice a2 n2 c2, .int .i64 (q : Nat), .int .i64 0]) (by simp [results, Tryz.results39, go_sem]) rfl ?_
    exact .done t _ HE.out (by rw [← HQ.out]) (HR.out.1.kept ((Kept.refl (fun _ => False) _).drewN _) (fun _ _ f => f)) HR.out.2 (HSM.out.drewN _)
  · have HE : Hid (Ends (ofBytes cs) most ps0 t er ∧ er ≠ 0) := hid ⟨he, h0⟩
    have hed : ((er : Int) != 0) = true := by simp; omega
    clear hr he ho hc her h0 HRD
    go_wp2_with fail
    try go_quiet (fail)
    try go_wp2_with fail
    refine bodyPost_ret (v := .tuple #[.slice none 0 0, .int .i64 0, .int .i64 (er : Nat)]) (by simp [results, Tryz.results39, go_sem]) rfl ?_
    exact .fail t er HE.out.1 HE.out.2 rfl (by first | exact HSM.out | exact HSM.out.drewN _)

end Go.Proofs.YtggcbnhckcenmaaGreatDoor
