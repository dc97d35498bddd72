/-
  Of the proof: parts TpB, TpPakLaw.
-/
import Derived.Test.YtggcbnhckcenmabGreatDoorJ36

namespace Go.Proofs.YtggcbnhckcenmabGreatDoor
open Go.RowKit

theorem Row.lenCap8 {w : World} {a : Option Addr} {n c : Nat} {bs : List Nat} (h : Row w (.slice a n c) bs) : n ≤ c := by
 rcases h.2 with ⟨e, _⟩ | ⟨g, cp, cu, e, _, _, h1, _⟩
 ·simp only [Value.slice.injEq] at e; omega
 ·simp only [Value.slice.injEq] at e; omega

set_option maxRecDepth 100000 in
set_option maxHeartbeats 1000000 in
theorem tunpacked_any (W : World) (I : Nat → Prop) (a2 sa : Option Addr) (L c2 sl sc M : Nat) (y data : List Nat) (sz : List Int) (hr : Src W I (.slice a2 L c2) y) (hcap : L ≤ c2) (hnilb : ∀ n c, Value.slice a2 L c2 = .slice none n c → n = 0 ∧ c = 0) (hly : L = y.length) (hyb : ∀ b ∈ y, b < 256) (hss : SrcE intV W (fun j => j < W.heap.size) (.slice sa sl sc) sz) (hls : sz.length = sl) (hL : L ≤ 100000) (hsl : sl ≤ 1000000) (hM : M ≤ 16384) (t0 : Ps) (he : Ends (ofBytes y) M ps0 t0 0) (ho : t0.out = data) (hc : (t0.c + 7) / 8 = y.length) (hT : Tab W) :
  Calls Tryz.prog 13 #[.slice a2 L c2, .slice sa sl sc, .int .i64 (M : Nat)] W fun e w' => ∃ v, e = .returned (.tuple #[v, .bool true]) ∧ Row w' v data ∧ Same W w' := by
 have HNW := pnewS_good W M hM
 have HT : Hid (Tab W) := hT
 have HRY : Hid (Src W I (.slice a2 L c2) y) := hr
 have HNB : Hid (∀ n c, Value.slice a2 L c2 = .slice none n c → n = 0 ∧ c = 0) := hnilb
 have HLY : Hid (L = y.length) := hly
 have HYB : Hid (∀ b ∈ y, b < 256) := hyb
 have HSZ : Hid (SrcE intV W (fun j => j < W.heap.size) (.slice sa sl sc) sz ∧ sz.length = sl) := hid ⟨hss, hls⟩
 have HE0 : Hid (Ends (ofBytes y) M ps0 t0 0 ∧ t0.out = data ∧ (t0.c + 7) / 8 = y.length) := hid ⟨he, ho, hc⟩
 clear hr hnilb hly hyb hss hls he ho hc hT
 go_enter Tryz.func13, Tryz.ntmps13
 go_wp2_with fail
 refine HNW.mono ?_
 rintro x w3 ⟨rfl, hsm3, hk3⟩
 have HK3 : Hid (Same W w3) := hk3
 obtain ⟨N, hNN⟩ : ∃ N, N = W.heap.size := ⟨_, rfl⟩
 obtain ⟨F0, hst0⟩ := StI.new W w3 M hM hsm3 HT.out hk3
 rw [← hNN] at hst0 ⊢
 have HON : Hid (0 < N ∧ N = W.heap.size) := hid ⟨by have := HT.out.lt; omega, hNN⟩
 have HT0 : Hid (Told N w3 N M (y.take 0) [] (.slice none 0 0) ps0 55 F0) := hid ⟨by rw [List.take_zero]; exact hst0, World.ownsRow_nil w3 0 5 1, fun _ => rfl, Nat.zero_le _, fun k e => by cases e⟩
 clear hsm3 hk3 hst0 hNN HNW
 go_wp2_with fail
 go_loopg [10, 11, 12] (sl + 1) (fun qq z10 z11 z12 wr => ∃ (i at' : Nat) (all : List Nat) (t : Ps) (er' : Nat) (F : Nat → Prop), z11 = .int .i64 (at' : Nat) ∧ z12 = .int .i64 (i : Nat) ∧ i ≤ sl + 1 ∧ sl + 1 - i ≤ qq ∧ at' ≤ L ∧ (i = sl + 1 → at' = L) ∧ Hid (Told N wr N M (y.take at') all z10 t er' F) ∧ Hid (Same W wr))
 case atStart => exact ⟨0, 0, [], ps0, 55, F0, rfl, rfl, by omega, by omega, by omega, fun h9 => by omega, HT0, HK3⟩
 case round =>
  clear HT0 HK3
  obtain ⟨i, at', all, t, er', F, rfl, rfl, hi1, hiq, hat, hend, HTO, HKi⟩ := hrel
  obtain ⟨va, hva⟩ : ∃ va, va = u10 := ⟨_, rfl⟩
  rw [← hva] at HTO ⊢
  clear hva
  by_cases hi : i ≤ sl
  ·have y1 : decide ((i : Int) ≤ (sl : Int)) = true := by simp; omega
   have HIL : Hid (i ≤ sl) := hi
   have HRYr : Hid (Src wr I (.slice a2 L c2) y) := hid (HRY.out.kept HKi.out (fun _ _ _ f => f))
   obtain ⟨d, hd⟩ : ∃ d, d = L - at' := ⟨_, rfl⟩
   have hdI : (L : Int) - (at' : Int) = (d : Int) := by omega
   have hdw : IntKind.i64.wrap (d : Int) = (d : Int) := by rw [IntKind.wrap_i64]; omega
   have HD : Hid (d = L - at') := hd
   have HPT := tpart_any wr d i _ sa sl sc sz (HSZ.out.1.same HKi.out) HSZ.out.2 (by omega)
   clear hd hi
   go_wp2_with fail
   refine HPT.mono ?_
   rintro x w4 ⟨n, rfl, hn, hlast, hk4⟩
   obtain ⟨e1, he1⟩ : ∃ e1, e1 = at' + n := ⟨_, rfl⟩
   have heI : (at' : Int) + (n : Int) = (e1 : Int) := by omega
   have hew : IntKind.i64.wrap (e1 : Int) = (e1 : Int) := by rw [IntKind.wrap_i64]; have := HD.out; omega
   have HE1 : Hid (at' ≤ e1 ∧ e1 ≤ y.length ∧ e1 ≤ L ∧ (i + 1 = sl + 1 → e1 = L)) := hid ⟨by omega, by have := HLY.out; have := HD.out; omega, by have := HD.out; omega, fun h9 => by have := hlast (by omega); have := HD.out; omega⟩
   have i1 : (0 : Int) ≤ (at' : Int) := by omega
   have i2 : (at' : Int) ≤ (e1 : Int) := by omega
   have i3 : (e1 : Int) ≤ (c2 : Int) := by have := HE1.out.2.2.1; omega
   have i4 : (at' : Int) ≤ (c2 : Int) := by omega
   have HTO4 : Hid (Told N w4 N M (y.take at') all va t er' F) := hid (HTO.out.kept hk4)
   have HK4 : Hid (Same W w4) := hid (Same.trans HKi.out hk4)
   have HRY4 : Hid (Src w4 I (.slice a2 L c2) y) := hid (HRYr.out.kept hk4 (fun _ _ _ f => f))
   have HFD : Hid (∀ (a' : Option Addr) (c' : Nat), (at' < e1 → ∃ b o, a2 = some ⟨b, o, none⟩ ∧ a' = some ⟨b, o + at', none⟩) → (∀ n c, Value.slice a' (e1 - at') c' = .slice none n c → n = 0 ∧ c = 0) → Calls Tryz.prog 20 #[.pointer (some ⟨N, 0, none⟩), .slice a' (e1 - at') c'] w4 fun x w' => ∃ u t' er2 F', FedA N w4 w' N M (y.take at' ++ (y.drop at').take (e1 - at')) t F x u t' er2 F') := hid (fun a' c' ha hnil => stI_feed w4 N M (y.take at') t er' F HTO4.out.st _ _ _ (Src.part HRY4.out HE1.out.1 HE1.out.2.1 ha) (fun b hb => HYB.out b (List.mem_of_mem_drop (List.mem_of_mem_take hb))) hnil (by rw [List.length_take, List.length_take, List.length_drop]; have := HLY.out; omega) HON.out.1)
   have HAD : Hid (at' < e1 → ∃ b o, a2 = some ⟨b, o, none⟩) := hid (fun h8 => by
    obtain ⟨ao, co, e9, h9⟩ := HRY4.out
    simp only [Value.slice.injEq] at e9
    obtain ⟨b, o, h1, _⟩ := h9 (fun e => by have := HE1.out.2.1; rw [e] at this; simp at this; omega)
    exact ⟨b, o, by rw [e9.1]; exact h1⟩)
   have HENDS : Hid (∀ (P rest : List Nat) (t4 : Ps) (er4 : Nat), P ++ rest = y → Ends (ofBytes P) M ps0 t4 er4 → er4 = 0 ∨ er4 = 55) := hid (fun P rest t4 er4 hP he => by
    by_cases h55 : er4 = 55
    ·exact .inr h55
    ·have h1 := ends_behind rest he h55
     rw [hP] at h1
     exact .inl (h1.det HE0.out.1).2)
   clear he1 hn hlast hk4 HPT HTO HKi HRYr
   go_wp2_with fail
   all_goals
    try
     have hcc := h.symm
     subst hcc
    refine (HFD.out _ _ ?_ ?_).mono ?_
    ·intro h9
     first
      | (exfalso; omega)
      | (obtain ⟨b9, o9, hab⟩ := HAD.out h9; exact ⟨b9, o9, hab, by rw [hab]; simp [addAt]⟩)
    ·intro n c e9
     first
      | (simp only [Value.slice.injEq] at e9; omega)
      | (cases a2 with
       | none => have := HNB.out _ _ rfl; omega
       | some x9 => simp at e9)
    rintro x w5 ⟨u, t4, er4, F4, hf4⟩
    have her := HENDS.out _ (y.drop e1) t4 er4 (by rw [take_part y at' e1 HE1.out.1, List.take_append_drop]) hf4.st.ends
    have hx := hf4.ret
    rw [show (if er4 = 55 then 0 else er4) = 0 by rcases her with h9 | h9 <;> simp [h9]] at hx
    subst hx
    obtain ⟨p4, hp4⟩ : ∃ p : List Nat, (if er4 = 0 ∨ er4 = 55 then t4.out.drop t.out.length else []) = p := ⟨_, rfl⟩
    have hr4 := hf4.row
    rw [hp4] at hr4
    obtain ⟨au, cu, hu, _⟩ := hr4.shape
    obtain ⟨nu, hnu⟩ : ∃ n, n = p4.length := ⟨_, rfl⟩
    rw [← hnu] at hu
    subst hu
    have HFA : Hid (∃ x, FedA N w4 w5 N M (y.take at' ++ (y.drop at').take (e1 - at')) t F x (.slice au nu cu) t4 er4 F4) := hid ⟨_, hf4⟩
    have HSU : Hid (Src w5 (fun k => (Value.slice au nu cu).ownBlock = some k) (.slice au nu cu) p4) := hid (Src.ofRow hr4)
    have HNU : Hid (∀ n c, Value.slice au nu cu = .slice none n c → n = 0 ∧ c = 0) := hid hr4.nil5
    have HVA4 : Hid (Row w5 va all) := hid (HTO4.out.row.kept hf4.kept (fun k e f9 => (HTO4.out.own k e).2 f9))
    have HP4 : Hid ((if er4 = 0 ∨ er4 = 55 then t4.out.drop t.out.length else []) = p4) := hp4
    have hpl : p4.length ≤ 16384 := by
     have h8 := (ends_in hf4.st.ends).2
     rw [← hp4, if_pos her, List.length_drop]
     omega
    have HLA : Hid (all.length + p4.length ≤ 1000000000000) := hid (by have := HTO4.out.ol; omega)
    have HK5 : Hid (Same W w5) := hid (Same.then HK4.out hf4.kept (fun k hk9 f9 => by have := HTO4.out.st.from' k f9; have := HON.out.2; omega))
    clear hf4 hr4 hp4 hpl hnu her
    go_wp2_with (at_builtin; refine wpList_append_any _ rfl (.tmp 53) (.tmp 54) rfl va all rfl HVA4.out _ (.slice au nu cu) p4 rfl HNU.out HSU.out HLA.out ?_)
    intro v6 w6 hr6 hg6 ho6
    have HTO6 : Hid (Told N w6 N M (y.take e1) (all ++ p4) v6 t4 er4 F4) := hid (by
     obtain ⟨x9, hfa⟩ := HFA.out
     have h9 := HTO4.out.fed hfa (w2 := w6) (v' := v6) (by rw [HP4.out]; exact hr6) hg6 ho6 (hfa.back HTO4.out.st) HON.out.1
     rw [HP4.out, take_part y at' e1 HE1.out.1] at h9
     exact h9)
    have HK6 : Hid (Same W w6) := hid (Same.then HK5.out ((Kept.refl (fun k => va.ownBlock = some k) w5).grown hg6 (fun k e => .inl e)) (fun k hk9 f9 => by have := (HTO4.out.own k f9).1; have := HON.out.2; omega))
    clear hr6 hg6 ho6
    go_wp2_with fail
    go_roundg (gk - 1)
    case measure => have := HIL.out; omega
    case rel => exact ⟨i + 1, e1, all ++ p4, t4, er4, F4, rfl, by go_num, by have := HIL.out; omega, by have := HIL.out; omega, HE1.out.2.2.1, HE1.out.2.2.2, HTO6, HK6⟩
  ·obtain rfl : i = sl + 1 := by omega
   have hatl : at' = L := hend rfl
   subst hatl
   have y1 : decide ((((sl + 1 : Nat) : Int)) ≤ (sl : Int)) = false := by simp; omega
   have y2 : decide (sl + 1 ≤ sl) = false := by simp
   have hbt : y.take at' = y := List.take_of_length_le (by rw [← HLY.out]; exact Nat.le_refl _)
   rw [hbt] at HTO
   obtain ⟨ht0, hee⟩ := HTO.out.st.ends.det HE0.out.1
   subst ht0 hee
   have hall : all = data := by rw [HTO.out.tell (.inl rfl)]; exact HE0.out.2.1
   subst hall
   obtain ⟨vd, hsd, hrd⟩ := HTO.out.st.isDone rfl
   rw [HE0.out.2.2, List.drop_eq_nil_of_le (Nat.le_refl _)] at hrd
   have HD1 : Hid (∀ W2, Same wr W2 → Sm W2 N 0 (.slice none 0 0) (.pointer none) vd 0 0 ∧ Row W2 vd []) := hid (fun W2 hk => ⟨hsd.kept hk (fun f => f), hrd.kept hk (fun _ _ f => f)⟩)
   have HDN := pdone_any wr N 0 (.slice none 0 0) (.pointer none) vd 0 0 hsd
   simp only [show ((0 : Nat) == 0) = true from by decide] at HDN
   have HRA : Hid (Row wr va all) := hid HTO.out.row
   obtain ⟨aa, ca, hva, _⟩ := HTO.out.row.shape
   obtain ⟨na, hna⟩ : ∃ n, n = all.length := ⟨_, rfl⟩
   rw [← hna] at hva
   subst hva
   clear hend hi hbt hna hsd hrd
   go_wp2_with fail
   refine HDN.mono ?_
   rintro x w5 ⟨rfl, m5, hw5⟩
   have hk5 : Same wr w5 := by rw [hw5]; exact (Kept.refl _ wr).drewN m5
   have HK5 : Hid (Same wr w5) := hk5
   have HRS := prest_any w5 N 0 (.slice none 0 0) (.pointer none) vd 0 [] (HD1.out w5 hk5).1 (HD1.out w5 hk5).2 (by decide)
   clear hk5 hw5 HDN
   go_wp2_with fail
   refine HRS.mono ?_
   rintro x w6 ⟨v6, rfl, hf6⟩
   have HK6 : Hid (Same wr w6) := hid (Same.trans HK5.out hf6.kept)
   have HCL := pclose_any w6 N 0 (.slice none 0 0) (.pointer none) vd 0 0 (HD1.out w6 HK6.out).1
   obtain ⟨a6, c6, hv6, _⟩ := hf6.row.shape
   simp only [List.length_nil] at hv6
   subst hv6
   clear hf6 HRS
   go_wp2_with fail
   refine HCL.mono ?_
   rintro x w7 ⟨rfl, hw7⟩
   subst hw7
   clear HCL
   go_wp2_with fail
   go_ret2
   exact ⟨_, rfl, HRA.out.kept HK6.out (fun _ _ f => f), Same.trans HKi.out HK6.out⟩

end Go.Proofs.YtggcbnhckcenmabGreatDoor

namespace Go.Proofs.YtggcbnhckcenmabGreatDoor
open Go.RowKit

theorem Tryz.two0 (x y : Value) (w : World) : (Instr.index 32 (.agg #[x, y]) (.int .i64 0)).run Tryz.prog w = .ok x w := by kernel_rfl
theorem Tryz.two1 (x y : Value) (w : World) : (Instr.index 32 (.agg #[x, y]) (.int .i64 1)).run Tryz.prog w = .ok y w := by kernel_rfl

theorem PDef.as {data x : List Nat} (h : PDef data x) (hb : ∀ b ∈ data, b < 256) (hl : data.length ≤ 16384) (hx : ∀ b ∈ x, b < 256) : ReadAs x data :=
 ⟨hx, by have := h.short.1; omega, h.reads hb (Nat.le_refl _) hl⟩

theorem ReadAs.few {x data : List Nat} (h : ReadAs x data) (m : Nat) (hm : m < data.length) : ∃ u, Ends (ofBytes x) m ps0 u 56 := by
 obtain ⟨_, _, t, he, ho, _⟩ := h
 exact he.few (Nat.zero_le _) (by rw [ho]; exact hm)

structure FdP (N : Nat) (w : World) (vs vt : Value) (fs : List Nat) : Prop where
 st : StD w N vs false fs
 told : Row w vt []
 ns : ∀ k, vs.ownBlock = some k → N < k
 nt : ∀ k, vt.ownBlock = some k → N < k ∧ vs.ownBlock ≠ some k

theorem grown_kept7 {w w' : World} {o : Option Nat} (h : w.grownBy w' o) : Kept (fun k => o = some k) w w' := (Kept.refl _ w).grown h (fun _ e => .inl e)

theorem FdP.told1 {N : Nat} {w w1 : World} {vs vt : Value} {fs : List Nat} (h : FdP N w vs vt fs) (hk : Kept (fun k => k = N ∨ vs.ownBlock = some k) w w1) : Row w1 vt [] :=
 h.told.kept hk (fun k e f => f.elim (fun f => by have := h.nt k e; omega) (fun f => (h.nt k e).2 f))

theorem FdP.step {N : Nat} {w w1 w2 : World} {vs vs1 vt vt2 : Value} {fs gs : List Nat} (h : FdP N w vs vt fs) (hk : Kept (fun k => k = N ∨ vs.ownBlock = some k) w w1) (hst : StD w1 N vs1 false gs) (hown : vs1.ownBlock = vs.ownBlock ∨ vs1.ownBlock = some w.heap.size) (hr2 : Row w2 vt2 []) (hg2 : w1.grownBy w2 vt.ownBlock) (ho2 : vt2.ownBlock = vt.ownBlock ∨ vt2.ownBlock = some w1.heap.size) : FdP N w2 vs1 vt2 gs := by
 have hN := h.st.blk.lt
 have k2 := grown_kept7 hg2
 have h1 : ∀ k, vs1.ownBlock = some k → N < k ∧ vt.ownBlock ≠ some k ∧ k < w1.heap.size := fun k e => by
  have hlt := hst.row.lt e
  rcases hown with h9 | h9
  ·rw [h9] at e
   exact ⟨h.ns k e, fun e2 => (h.nt k e2).2 e, hlt⟩
  ·rw [h9] at e
   injection e with e
   exact ⟨by omega, fun e2 => by have := h.told.lt e2; omega, hlt⟩
 refine ⟨hst.kept k2 (fun e => by have := (h.nt N e).1; omega) (fun k e f => (h1 k e).2.1 f), hr2, fun k e => (h1 k e).1, fun k e => ?_⟩
 rcases ho2 with h9 | h9
 ·rw [h9] at e
  exact ⟨(h.nt k e).1, fun e2 => (h1 k e2).2.1 e⟩
 ·rw [h9] at e
  injection e with e
  have := hk.size
  exact ⟨by omega, fun e2 => by have := h1 k e2; omega⟩

theorem FdP.same {N : Nat} {w0 w w1 w2 : World} {vs vt : Value} {fs : List Nat} (h : FdP N w vs vt fs) (hN : N = w0.heap.size) (hs : Same w0 w) (hk : Kept (fun k => k = N ∨ vs.ownBlock = some k) w w1) (hg2 : w1.grownBy w2 vt.ownBlock) : Same w0 w2 :=
 Same.then (Same.then hs hk (fun k hk f => f.elim (fun f => by omega) (fun f => by have := h.ns k f; omega))) (grown_kept7 hg2) (fun k hk f => by have := (h.nt k f).1; omega)

set_option maxRecDepth 100000 in
set_option maxHeartbeats 1000000 in
theorem tpacks_good (W : World) (a sa oa : Option Addr) (L cap sl sc ol oc : Nat) (bs : List Nat) (sz oz : List Int) (hs : Src W (fun j => j < W.heap.size) (.slice a L cap) bs) (hl : bs.length = L) (hb : ∀ x ∈ bs, x < 256) (hn : ∀ n c, Value.slice a L cap = .slice none n c → n = 0 ∧ c = 0) (hcap : L ≤ cap) (hss : SrcE intV W (fun j => j < W.heap.size) (.slice sa sl sc) sz) (hls : sz.length = sl) (hso : SrcE intV W (fun j => j < W.heap.size) (.slice oa ol oc) oz) (hlo : oz.length = ol) (hlen : L ≤ 16384) (hsl : sl ≤ 200) (hol : ol ≤ 200) (hT : Tab W) :
  Calls Tryz.prog 3 #[.slice a L cap, .slice sa sl sc, .slice oa ol oc] W fun e w' => e = .returned (.bool true) ∧ Same W w' := by
 have b1 : decide ((16384 : Int) < (L : Int)) = false := by simp; omega
 have b2 : decide ((200 : Int) < (sl : Int)) = false := by simp; omega
 have b3 : decide ((200 : Int) < (ol : Int)) = false := by simp; omega
 have HT : Hid (Tab W) := hT
 have HS : Hid (Src W (fun j => j < W.heap.size) (.slice a L cap) bs) := hs
 have HSZ : Hid (SrcE intV W (fun j => j < W.heap.size) (.slice sa sl sc) sz ∧ sz.length = sl) := hid ⟨hss, hls⟩
 have HOZ : Hid (SrcE intV W (fun j => j < W.heap.size) (.slice oa ol oc) oz ∧ oz.length = ol) := hid ⟨hso, hlo⟩
 have HL : Hid (bs.length = L) := hl
 have HB : Hid (∀ x ∈ bs, x < 256) := hb
 have HNB : Hid (∀ n c, Value.slice a L cap = .slice none n c → n = 0 ∧ c = 0) := hn
 have HI := deflate_any W (.slice a L cap) _ bs hs hb hn (by omega) hT
 clear hs hss hso hl hls hlo hb hn hT
 go_enter Tryz.func3, Tryz.ntmps3
 go_wp2_with fail
 refine HI.mono ?_
 rintro x w1 ⟨v1, y1, rfl, hn1, hp1⟩
 have HK1 : Hid (Same W w1) := hid hn1.same
 have HR1 : Hid (Row w1 v1 y1 ∧ ReadAs y1 bs) := hid ⟨hn1.row, hp1.as HB.out (by rw [HL.out]; exact hlen) hn1.byte⟩
 obtain ⟨a1, c1, hv1, _⟩ := hn1.row.shape
 obtain ⟨n1, hn1l⟩ : ∃ n, n = y1.length := ⟨_, rfl⟩
 rw [← hn1l] at hv1
 subst hv1
 have HN1 : Hid (n1 = y1.length) := hn1l
 have HNW := dnew_any w1
 clear hn1 hp1 hn1l HI
 go_wp2_with fail
 refine HNW.mono ?_
 rintro x w2 ⟨rfl, hst2, hk2⟩
 obtain ⟨N, hNN⟩ : ∃ N, N = w1.heap.size := ⟨_, rfl⟩
 rw [← hNN] at hst2 ⊢
 have HNN : Hid (N = w1.heap.size) := hNN
 have HF2 : Hid (FdP N w2 (.slice none 0 0) (.slice none 0 0) (bs.take 0)) := hid ⟨by rw [List.take_zero]; exact hst2, nil_row7 _, (fun k e => nomatch e), (fun k e => nomatch e)⟩
 have HK2 : Hid (Same w1 w2) := hk2
 clear hst2 hk2 HNW hNN
 go_wp2_with fail
 go_loopg [10, 11, 12] (sl + 1) (fun qq z10 z11 z12 wr => ∃ (i at' : Nat) (vs : Value), z11 = .int .i64 (at' : Nat) ∧ z12 = .int .i64 (i : Nat) ∧ i ≤ sl + 1 ∧ sl + 1 - i ≤ qq ∧ at' ≤ L ∧ (i = sl + 1 → at' = L) ∧ Hid (FdP N wr vs z10 (bs.take at')) ∧ Hid (Same w1 wr))
 case atStart => exact ⟨0, 0, _, rfl, rfl, by omega, by omega, by omega, fun h9 => by omega, HF2, HK2⟩
 case round =>
  clear HF2 HK2
  obtain ⟨i, at', vs, rfl, rfl, hi1, hiq, hat, hend, HF, HKi⟩ := hrel
  obtain ⟨vt, hvt⟩ : ∃ v, v = u10 := ⟨_, rfl⟩
  rw [← hvt] at HF ⊢
  clear hvt
  obtain ⟨at2, ct, hvt, _⟩ := HF.out.told.shape
  simp only [List.length_nil] at hvt
  subst hvt
  have HKW : Hid (Same W wr) := hid (Same.trans HK1.out HKi.out)
  by_cases hi : i ≤ sl
  ·have y1' : decide ((i : Int) ≤ (sl : Int)) = true := by simp; omega
   have HIL : Hid (i ≤ sl) := hi
   obtain ⟨d, hd⟩ : ∃ d, d = L - at' := ⟨_, rfl⟩
   have hdI : (L : Int) - (at' : Int) = (d : Int) := by omega
   have hdw : IntKind.i64.wrap (d : Int) = (d : Int) := by rw [IntKind.wrap_i64]; omega
   have HD : Hid (d = L - at') := hd
   have HPT := tpart_any wr d i _ sa sl sc sz (HSZ.out.1.same HKW.out) HSZ.out.2 (by omega)
   clear hd hi
   go_wp2_with fail
   refine HPT.mono ?_
   rintro x w4 ⟨n, rfl, hn, hlast, hk4⟩
   obtain ⟨e1, he1⟩ : ∃ e1, e1 = at' + n := ⟨_, rfl⟩
   have heI : (at' : Int) + (n : Int) = (e1 : Int) := by omega
   have hew : IntKind.i64.wrap (e1 : Int) = (e1 : Int) := by rw [IntKind.wrap_i64]; have := HD.out; omega
   have HE1 : Hid (at' ≤ e1 ∧ e1 ≤ bs.length ∧ e1 ≤ L ∧ (i + 1 = sl + 1 → e1 = L)) := hid ⟨by omega, by have := HL.out; have := HD.out; omega, by have := HD.out; omega, fun h9 => by have := hlast (by omega); have := HD.out; omega⟩
   have i1 : (0 : Int) ≤ (at' : Int) := by omega
   have i2 : (at' : Int) ≤ (e1 : Int) := by omega
   have i3 : (e1 : Int) ≤ (cap : Int) := by have := HE1.out.2.2.1; omega
   have i4 : (at' : Int) ≤ (cap : Int) := by omega
   have HF4 : Hid (FdP N w4 vs (.slice at2 0 ct) (bs.take at')) := hid ⟨HF.out.st.kept hk4 (fun f => f) (fun _ _ f => f), HF.out.told.kept hk4 (fun _ _ f => f), HF.out.ns, HF.out.nt⟩
   have HK4 : Hid (Same w1 w4) := hid (Same.trans HKi.out hk4)
   have HS4 : Hid (Src w4 (fun j => j < W.heap.size) (.slice a L cap) bs) := hid (HS.out.kept (Same.trans HKW.out hk4) (fun _ _ _ f => f))
   have HFD : Hid (∀ (a' : Option Addr) (c' : Nat), (at' < e1 → ∃ b o, a = some ⟨b, o, none⟩ ∧ a' = some ⟨b, o + at', none⟩) → (∀ n c, Value.slice a' (e1 - at') c' = .slice none n c → n = 0 ∧ c = 0) → Calls Tryz.prog 10 #[.pointer (some ⟨N, 0, none⟩), .slice a' (e1 - at') c'] w4 fun e w' => e = .returned (.tuple #[.slice none 0 0, .int .i64 0]) ∧ Kept (fun k => k = N ∨ vs.ownBlock = some k) w4 w' ∧ ∃ v', StD w' N v' false (bs.take e1) ∧ (v'.ownBlock = vs.ownBlock ∨ v'.ownBlock = some w4.heap.size)) := hid (fun a' c' ha hnil => by
    have h9 := dfeed_good w4 N vs (bs.take at') HF4.out.st _ (.slice a' (e1 - at') c') _ (Src.part HS4.out HE1.out.1 HE1.out.2.1 ha) (fun b hb => HB.out b (List.mem_of_mem_drop (List.mem_of_mem_take hb))) hnil (by rw [List.length_take, List.length_take, List.length_drop]; have := HL.out; omega)
    rw [take_part bs at' e1 HE1.out.1] at h9
    exact h9)
   have HAD : Hid (at' < e1 → ∃ b o, a = some ⟨b, o, none⟩) := hid (fun h8 => by
    obtain ⟨ao, co, e9, h9⟩ := HS4.out
    simp only [Value.slice.injEq] at e9
    obtain ⟨b, o, h1, _⟩ := h9 (fun e => by have := HE1.out.2.1; rw [e] at this; simp at this; omega)
    exact ⟨b, o, by rw [e9.1]; exact h1⟩)
   clear he1 hn hlast hk4 HPT HF HKi HKW
   go_wp2_with fail
   all_goals
    try
     have hcc := h.symm
     subst hcc
    refine (HFD.out _ _ ?_ ?_).mono ?_
    ·intro h9
     first
      | (exfalso; omega)
      | (obtain ⟨b9, o9, hab⟩ := HAD.out h9; exact ⟨b9, o9, hab, by rw [hab]; simp [addAt]⟩)
    ·intro n c e9
     first
      | (simp only [Value.slice.injEq] at e9; omega)
      | (cases a with
       | none => have := HNB.out _ _ rfl; omega
       | some x9 => simp at e9)
    rintro x w5 ⟨rfl, hk5, vs5, hst5, hown5⟩
    have HH5 : Hid (Kept (fun k => k = N ∨ vs.ownBlock = some k) w4 w5 ∧ StD w5 N vs5 false (bs.take e1) ∧ (vs5.ownBlock = vs.ownBlock ∨ vs5.ownBlock = some w4.heap.size)) := hid ⟨hk5, hst5, hown5⟩
    have HT5 : Hid (Row w5 (.slice at2 0 ct) []) := hid (HF4.out.told1 hk5)
    clear hk5 hst5 hown5
    go_wp2_with (at_builtin; refine wpList_append_any _ rfl (.tmp 80) (.tmp 81) rfl (.slice at2 0 ct) [] rfl HT5.out (fun _ => True) (.slice none 0 0) [] rfl (fun n c e => by cases e; exact ⟨rfl, rfl⟩) ⟨none, 0, rfl, fun h => absurd rfl h⟩ (by decide) ?_)
    intro v6 w6 hr6 hg6 ho6
    have HF6 : Hid (FdP N w6 vs5 v6 (bs.take e1)) := hid (HF4.out.step HH5.out.1 HH5.out.2.1 HH5.out.2.2 hr6 hg6 ho6)
    have HK6 : Hid (Same w1 w6) := hid (HF4.out.same HNN.out HK4.out HH5.out.1 hg6)
    clear hr6 hg6 ho6
    go_wp2_with fail
    go_roundg (gk - 1)
    case measure => have := HIL.out; omega
    case rel => exact ⟨i + 1, e1, vs5, rfl, by go_num, by have := HIL.out; omega, by have := HIL.out; omega, HE1.out.2.2.1, HE1.out.2.2.2, HF6, HK6⟩
  ·obtain rfl : i = sl + 1 := by omega
   have hatl : at' = L := hend rfl
   subst hatl
   have y1' : decide ((((sl + 1 : Nat) : Int)) ≤ (sl : Int)) = false := by simp; omega
   have y2' : decide (sl + 1 ≤ sl) = false := by simp
   have hbt : bs.take at' = bs := List.take_of_length_le (by rw [HL.out]; exact Nat.le_refl _)
   rw [hbt] at HF
   have HCL := dclose_good wr N vs bs HF.out.st (by rw [HL.out]; exact hlen) (HT.out.kept HKW.out (fun f => f))
   clear hend hi hbt
   go_wp2_with fail
   refine HCL.mono ?_
   rintro x w5 ⟨v5, y5, rfl, hr5, hb5, hn5, hpd, hk5, _⟩
   have HA5 : Hid (ReadAs y5 bs) := hid (hpd.as HB.out (by rw [HL.out]; exact hlen) hb5)
   have HK5 : Hid (Same w1 w5) := hid (Same.then HKi.out hk5 (fun k hk f => by have := HNN.out; omega))
   have HT5 : Hid (Row w5 (.slice at2 0 ct) []) := hid (HF.out.told.kept hk5 (fun k e f => by have := (HF.out.nt k e).1; omega))
   obtain ⟨a5, c5, hv5, _⟩ := hr5.shape
   obtain ⟨n5, hn5l⟩ : ∃ n, n = y5.length := ⟨_, rfl⟩
   rw [← hn5l] at hv5
   subst hv5
   have HN5 : Hid (n5 = y5.length) := hn5l
   have HR5 : Hid (Row w5 (.slice a5 n5 c5) y5) := hr5
   have HLA : Hid (([] : List Nat).length + y5.length ≤ 1000000000000) := hid (by have := HA5.out.2.1; simp only [List.length_nil]; omega)
   clear hr5 hb5 hn5 hpd hk5 hn5l HCL
   go_wp2_with (at_builtin; refine wpList_append_any _ rfl (.tmp 91) (.tmp 92) rfl (.slice at2 0 ct) [] rfl HT5.out _ (.slice a5 n5 c5) y5 rfl (Row.nil5 HR5.out) (Src.ofRow HR5.out) HLA.out ?_)
   intro v6 w6 hr6 hg6 ho6
   have HK6 : Hid (Same w1 w6) := hid (Same.then HK5.out (grown_kept7 hg6) (fun k hk f => by have := (HF.out.nt k f).1; have := HNN.out; omega))
   have HR6 : Hid (Row w6 v6 y5) := hid (by simpa using hr6)
   obtain ⟨a6, c6, hv6, _⟩ := HR6.out.shape
   rw [← HN5.out] at hv6
   subst hv6
   have HX1 : Hid (Row w6 (.slice a1 n1 c1) y1) := hid (HR1.out.1.kept HK6.out (fun _ _ f => f))
   have HKW6 : Hid (Same W w6) := hid (Same.trans HK1.out HK6.out)
   have hlen' : at' ≤ 16384 := hlen
   have HRND : Hid (∀ (w : World) (aa : Option Addr) (nn cc : Nat) (x : List Nat), Same w6 w → Row w (.slice aa nn cc) x → nn = x.length → ReadAs x bs → Calls Tryz.prog 12 #[.slice aa nn cc, .int .i64 (at' : Nat)] w fun e w' => ∃ v, e = .returned (.tuple #[v, .int .i64 (nn : Nat), .int .i64 0]) ∧ Row w' v bs ∧ Same w w') := hid (fun w aa nn cc x hk hrow hlx hra => by
    obtain ⟨hby, hsz, t, he, ho, hc⟩ := hra
    have h := pinfl_any w (.slice aa nn cc) _ x at' (Src.ofRow hrow) hby (Row.nil5 hrow) (by omega) hlen' (HT.out.kept (Same.trans HKW6.out hk) (fun f => f))
    refine h.mono ?_
    intro e w' hi
    rw [HL.out] at he
    obtain ⟨v, rfl, hr, _, hk'⟩ := hi.is he
    rw [ho] at hr
    exact ⟨v, by rw [hc, hlx], hr, hk'⟩)
   have HUNP : Hid (∀ (w : World) (aa : Option Addr) (nn cc : Nat) (x : List Nat), Same w6 w → Row w (.slice aa nn cc) x → nn = x.length → ReadAs x bs → Calls Tryz.prog 13 #[.slice aa nn cc, .slice oa ol oc, .int .i64 (at' : Nat)] w fun e w' => ∃ v, e = .returned (.tuple #[v, .bool true]) ∧ Row w' v bs ∧ Same w w') := hid (fun w aa nn cc x hk hrow hlx hra => by
    obtain ⟨hby, hsz, t, he, ho, hc⟩ := hra
    rw [HL.out] at he
    have hkw := Same.trans HKW6.out hk
    exact tunpacked_any w _ aa oa nn cc ol oc at' x bs oz (Src.ofRow hrow) hrow.lenCap8 (Row.nil5 hrow) hlx hby ((HOZ.out.1.same hkw).mono (fun k h9 => Nat.lt_of_lt_of_le h9 hkw.size)) HOZ.out.2 (by omega) (by omega) hlen' t he ho hc (HT.out.kept hkw (fun f => f)))
   have HFEW : Hid (∀ (w : World) (aa : Option Addr) (nn cc : Nat) (x : List Nat) (m : Nat), Same w6 w → Row w (.slice aa nn cc) x → ReadAs x bs → m < at' → Calls Tryz.prog 12 #[.slice aa nn cc, .int .i64 (m : Nat)] w fun e w' => e = .returned (.tuple #[.slice none 0 0, .int .i64 0, .int .i64 ((56 : Nat) : Int)]) ∧ Same w w') := hid (fun w aa nn cc x m hk hrow hra hm => by
    obtain ⟨u, hu⟩ := hra.few m (by rw [HL.out]; exact hm)
    refine (pinfl_any w (.slice aa nn cc) _ x m (Src.ofRow hrow) hra.1 (Row.nil5 hrow) (by have := hra.2.1; omega) (by omega) (HT.out.kept (Same.trans HKW6.out hk) (fun f => f))).mono ?_
    intro e w' hi
    exact hi.not hu (by decide))
   have HKB : Hid (∀ (w : World) (v : Value), Same w6 w → Row w v bs → Calls Tryz.prog 14 #[v, .slice a at' cap] w fun e w' => e = .returned (.bool true) ∧ Same w w') := hid (fun w v hk hrow => keepBytes_same w v (.slice a at' cap) _ _ bs (Src.ofRow hrow) (HS.out.kept (Same.trans HKW6.out hk) (fun _ _ _ f => f)) (by rw [HL.out]; omega))
   have HPK : Hid (∀ w, Same w6 w → Calls Tryz.prog 6 #[] w fun x w' => x = .returned (.bool true) ∧ Same w w') := hid (fun w hw => tpacks_any w (HT.out.kept (Same.trans HKW6.out hw) (fun f => f)))
   clear hr6 hg6 ho6 HT5 HR5 HF HKi HKW
   go_wp2_with fail
   go_loopg [18] 2 (fun qq z18 wr => ∃ k : Nat, z18 = .int .i64 (k : Nat) ∧ k ≤ 2 ∧ 2 - k ≤ qq ∧ Hid (Same w6 wr))
   case atStart => exact ⟨0, rfl, by omega, by omega, hid (Kept.refl _ _)⟩
   case round =>
    obtain ⟨k, rfl, hk2, hkq, HKr⟩ := hrel
    by_cases hk : k < 2
    ·have hidx : ∃ (aa : Option Addr) (nn cc : Nat) (x : List Nat), (∀ w, (Instr.index 32 (.agg #[.slice a1 n1 c1, .slice a6 n5 c6]) (.int .i64 (k : Nat))).run Tryz.prog w = .ok (.slice aa nn cc) w) ∧ Row w6 (.slice aa nn cc) x ∧ nn = x.length ∧ ReadAs x bs := by
      have h01 : k = 0 ∨ k = 1 := by omega
      rcases h01 with rfl | rfl
      ·exact ⟨a1, n1, c1, y1, Tryz.two0 _ _, HX1.out, HN1.out, HR1.out.2⟩
      ·exact ⟨a6, n5, c6, y5, Tryz.two1 _ _, HR6.out, HN5.out, HA5.out⟩
     obtain ⟨aa, nn, cc, x, hix, hrx, hnx, hax⟩ := hidx
     have HRX : Hid (Row w6 (.slice aa nn cc) x ∧ nn = x.length ∧ ReadAs x bs) := hid ⟨hrx, hnx, hax⟩
     have H1 := HRND.out wr aa nn cc x HKr.out (hrx.kept HKr.out (fun _ _ f => f)) hnx hax
     clear hrx hnx hax
     go_wp2_with fail
     refine H1.mono ?_
     rintro e w7 ⟨v7, rfl, hr7, hk7⟩
     have HK7 : Hid (Same w6 w7) := hid (Same.trans HKr.out hk7)
     have HR7 : Hid (Row w7 v7 bs) := hr7
     have H2 := HUNP.out w7 aa nn cc x HK7.out (HRX.out.1.kept HK7.out (fun _ _ f => f)) HRX.out.2.1 HRX.out.2.2
     obtain ⟨a7, c7, hv7, _⟩ := hr7.shape
     rw [HL.out] at hv7
     subst hv7
     clear hr7 hk7 H1
     go_wp2_with fail
     refine H2.mono ?_
     rintro e w8 ⟨v8, rfl, hr8, hk8⟩
     have HK8 : Hid (Same w6 w8) := hid (Same.trans HK7.out hk8)
     have HR8 : Hid (Row w8 v8 bs) := hr8
     have H3 := HKB.out w8 _ HK8.out (HR7.out.kept hk8 (fun _ _ f => f))
     obtain ⟨a8, c8, hv8, _⟩ := hr8.shape
     rw [HL.out] at hv8
     subst hv8
     clear hr8 hk8 H2 HK7 HR7
     go_wp2_with fail
     refine H3.mono ?_
     rintro e w9 ⟨rfl, hk9⟩
     have HK9 : Hid (Same w6 w9) := hid (Same.trans HK8.out hk9)
     have H4 := HKB.out w9 _ HK9.out (HR8.out.kept hk9 (fun _ _ f => f))
     clear hk9 H3 HK8 HR8
     go_wp2_with fail
     refine H4.mono ?_
     rintro e w10 ⟨rfl, hk10⟩
     have HK10 : Hid (Same w6 w10) := hid (Same.trans HK9.out hk10)
     clear hk10 H4 HK9
     by_cases h0 : 0 < at'
     ·have h0d : decide ((0 : Int) < (at' : Int)) = true := by simp; omega
      obtain ⟨m, hm⟩ : ∃ m, m = at' - 1 := ⟨_, rfl⟩
      have hmI : (at' : Int) - 1 = (m : Int) := by omega
      have hmw : IntKind.i64.wrap (m : Int) = (m : Int) := by rw [IntKind.wrap_i64]; omega
      have H5 := HFEW.out w10 aa nn cc x m HK10.out (HRX.out.1.kept HK10.out (fun _ _ f => f)) HRX.out.2.2 (by omega)
      clear hm
      go_wp2_with fail
      refine H5.mono ?_
      rintro e w11 ⟨rfl, hk11⟩
      have HK11 : Hid (Same w6 w11) := hid (Same.trans HK10.out hk11)
      clear hk11 H5
      go_wp2_with fail
      go_roundg (gk - 1)
      case measure => omega
      case rel => exact ⟨k + 1, by go_num, by omega, by omega, HK11⟩
     ·have h0d : decide ((0 : Int) < (at' : Int)) = false := by simp; omega
      go_wp2_with fail
      go_roundg (gk - 1)
      case measure => omega
      case rel => exact ⟨k + 1, by go_num, by omega, by omega, HK10⟩
    ·have hk2' : k = 2 := by omega
     subst hk2'
     have HP := HPK.out wr HKr.out
     go_wp2_with fail
     refine HP.mono ?_
     rintro e w7 ⟨rfl, hk7⟩
     have HK7 : Hid (Same W w7) := hid (Same.trans HKW6.out (Same.trans HKr.out hk7))
     clear hk7 HP
     go_wp2_with fail
     go_ret
     exact ⟨rfl, HK7.out⟩

set_option maxRecDepth 100000 in
set_option maxHeartbeats 400000 in
theorem topPacks_all (a : Option Addr) (len cap : Nat) (zs : List Int) (sa : Option Addr) (sl sc : Nat) (zo : List Int) (oa : Option Addr) (ol oc : Nat) (zp : List Int) (W : World) (h : IsRow .u8 W a len cap zs) (ho : IsRow .i64 W sa sl sc zo) (hp : IsRow .i64 W oa ol oc zp) (hT : Tab W) :
  Calls Tryz.prog 3 #[.slice a len cap, .slice sa sl sc, .slice oa ol oc] W fun e w' => e = .returned (.bool true) ∧ Below W.heap.size W w' := by
 suffices H : Calls Tryz.prog 3 #[.slice a len cap, .slice sa sl sc, .slice oa ol oc] W fun e w' => e = .returned (.bool true) ∧ Same W w' from H.mono (fun e w' h => ⟨h.1, h.2.bel⟩)
 obtain ⟨bs, hs, hl, hb⟩ := h.src
 by_cases hbig : 16384 < len ∨ 200 < sl ∨ 200 < ol
 ·have HP := tpacks_any W hT
  have hc : (decide ((16384 : Int) < (len : Int)) = true) ∨ (decide ((16384 : Int) < (len : Int)) = false ∧ decide ((200 : Int) < (sl : Int)) = true) ∨ (decide ((16384 : Int) < (len : Int)) = false ∧ decide ((200 : Int) < (sl : Int)) = false ∧ decide ((200 : Int) < (ol : Int)) = true) := by
   simp only [decide_eq_true_eq, decide_eq_false_iff_not]; omega
  clear hbig hT h ho hp hs hl hb
  rcases hc with b1 | ⟨b1, b2⟩ | ⟨b1, b2, b3⟩
  all_goals
   go_enter Tryz.func3, Tryz.ntmps3
   go_wp2_with fail
   refine HP.mono ?_
   rintro x w2 ⟨rfl, hk2⟩
   have HK2 : Hid (Same W w2) := hk2
   clear hk2 HP
   go_wp2_with fail
   go_ret
   exact ⟨rfl, HK2.out⟩
 ·exact tpacks_good W a sa oa len cap sl sc ol oc bs _ _ hs hl hb h.nil5 h.lenCap ho.ints.1 ho.ints.2 hp.ints.1 hp.ints.2 (by omega) (by omega) (by omega) hT

end Go.Proofs.YtggcbnhckcenmabGreatDoor
