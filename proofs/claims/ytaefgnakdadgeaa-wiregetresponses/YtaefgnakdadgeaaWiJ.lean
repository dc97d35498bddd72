/-
  Layer 19: a request's kind, and what it has besides.
-/
import Derived.Test.YtaefgnakdadgeaaWiG
import Derived.Test.YtaefgnakdadgeaaWiH
import Derived.Test.YtaefgnakdadgeaaWiI
import Derived.Laws.StructEq
namespace Go.Proofs.Ytaefgnakdadgeaa
open Go.RowKit

/-- A request's cells. -/
def rqV (q : Rq) : Array Value := #[.int .i64 q.k, .int .i64 q.x, .string q.a, .string q.e, .string q.d, .int .i64 q.f, .int .i64 q.m, .string q.o]

theorem rqV_cs (q : Rq) : (q.cs.map Cel.val).toArray = rqV q := rfl

/-- Is it a kind? -/
def okK (k : Int) : Bool := decide (1 ≤ k ∧ k ≤ 13)

set_option maxHeartbeats 400000 in
theorem iskind19 (w : World) (k : Int) : Calls Try.prog 24 #[.int .i64 k] w fun e w' => e = .returned (.bool (okK k)) ∧ w' = w := by
  by_cases h1 : 1 ≤ k
  · have d1 : decide (1 ≤ k) = true := by simp; omega
    by_cases h2 : k ≤ 13
    · have d2 : decide (k ≤ 13) = true := by simp; omega
      have HE : Hid (okK k = true) := hid (by unfold okK; simp; omega)
      clear h1 h2
      go_enter Try.func24, Try.ntmps24
      go_wp2_with fail
      go_ret
      exact ⟨by rw [HE.out]; rfl, rfl⟩
    · have d2 : decide (k ≤ 13) = false := by simp; omega
      have HE : Hid (okK k = false) := hid (by unfold okK; simp; omega)
      clear h1 h2
      go_enter Try.func24, Try.ntmps24
      go_wp2_with fail
      go_ret
      exact ⟨by rw [HE.out]; rfl, rfl⟩
  · have d1 : decide (1 ≤ k) = false := by simp; omega
    have HE : Hid (okK k = false) := hid (by unfold okK; simp; omega)
    clear h1
    go_enter Try.func24, Try.ntmps24
    go_wp2_with fail
    go_ret
    exact ⟨by rw [HE.out]; rfl, rfl⟩

/-- Fields made nothing, one behind the other. -/
def clrL (cs : List Cel) (l : List Fd) : List Cel := l.foldl clrF cs

theorem clrL_take (cs : List Cel) (l : List Fd) (i : Nat) (h : i < l.length) : clrL cs (l.take (i + 1)) = clrF (clrL cs (l.take i)) l[i] := by
  unfold clrL
  rw [List.take_succ_eq_append_getElem h, List.foldl_append]
  rfl

theorem Alike.refl (a : List Cel) : Alike a a := ⟨rfl, fun _ => ⟨fun x h => ⟨x, h⟩, fun x h => ⟨x, h⟩⟩⟩
theorem Alike.trans {a b c : List Cel} (h : Alike a b) (k : Alike b c) : Alike a c :=
  ⟨h.1.trans k.1, fun i => ⟨fun x hx => (by obtain ⟨z, hz⟩ := (h.2 i).1 x hx; exact (k.2 i).1 z hz), fun x hx => (by obtain ⟨z, hz⟩ := (h.2 i).2 x hx; exact (k.2 i).2 z hz)⟩⟩

theorem clrF_alike {cs : List Cel} {f : Fd} (hf : f.fits cs) : Alike cs (clrF cs f) := by
  cases f with
  | num i => obtain ⟨x, hx⟩ := hf; exact alike_setn hx
  | txt i m => obtain ⟨⟨x, hx⟩, _⟩ := hf; exact alike_sets hx

theorem clrL_alike (l : List Fd) {cs : List Cel} (hf : ∀ f ∈ l, f.fits cs) : Alike cs (clrL cs l) := by
  induction l generalizing cs with
  | nil => exact Alike.refl cs
  | cons f t ih =>
    have h1 := clrF_alike (hf f (List.mem_cons_self ..))
    exact h1.trans (ih (fun g hg => (hf g (List.mem_cons_of_mem _ hg)).alike h1))

theorem fdQ_cases (k : Int) : fdQ k = [.txt 7 256] ∨ fdQ k = [.num 1, .txt 2 255, .txt 3 255, .num 5, .num 6] ∨ fdQ k = [.num 1, .txt 2 255] ∨ fdQ k = [.num 1, .txt 2 255, .txt 3 255, .txt 4 16384] ∨ fdQ k = [.num 1, .txt 2 255, .txt 3 255] ∨ fdQ k = [.num 1] ∨ fdQ k = [.num 1, .txt 2 255, .num 5, .num 6] ∨ fdQ k = [.num 1, .txt 2 255, .txt 4 16384] ∨ fdQ k = [] := by
  unfold fdQ
  repeat' split
  all_goals simp

theorem fdQ_fits (q : Rq) (k : Int) : ∀ f ∈ fdQ k, f.fits q.cs := by
  have hn : ∀ i x, q.cs[i]? = some (.n x) → (Fd.num i).fits q.cs := fun i x h => ⟨x, h⟩
  have ht : ∀ i m x, q.cs[i]? = some (.s x) → m ≤ 16384 → (Fd.txt i m).fits q.cs := fun i m x h h2 => ⟨⟨x, h⟩, h2⟩
  have g1 := hn 1 q.x rfl
  have g2 := ht 2 255 q.a rfl (by decide)
  have g3 := ht 3 255 q.e rfl (by decide)
  have g4 := ht 4 16384 q.d rfl (by decide)
  have g5 := hn 5 q.f rfl
  have g6 := hn 6 q.m rfl
  have g7 := ht 7 256 q.o rfl (by decide)
  rcases fdQ_cases k with h | h | h | h | h | h | h | h | h
  all_goals
    rw [h]
    simp only [List.mem_cons, List.not_mem_nil, or_false, forall_eq_or_imp, forall_eq, false_implies, implies_true, g1, g2, g3, g4, g5, g6, g7, and_self]

theorem fdQ_len (k : Int) : (fdQ k).length ≤ 5 := by
  rcases fdQ_cases k with h | h | h | h | h | h | h | h | h
  all_goals
    rw [h]
    decide

/-- Has a kind the field at this cell? -/
def hasQ (k : Int) (i : Nat) : Bool := (fdQ k).any fun f => match f with
  | .num j => j == i
  | .txt j _ => j == i

/-- What is left when a kind's fields are made nothing. -/
def clrQ (q : Rq) : Rq := ⟨q.k, if hasQ q.k 1 then 0 else q.x, if hasQ q.k 2 then ⟨#[]⟩ else q.a, if hasQ q.k 3 then ⟨#[]⟩ else q.e, if hasQ q.k 4 then ⟨#[]⟩ else q.d, if hasQ q.k 5 then 0 else q.f, if hasQ q.k 6 then 0 else q.m, if hasQ q.k 7 then ⟨#[]⟩ else q.o⟩

theorem clr_cs (q : Rq) : clrL q.cs (fdQ q.k) = (clrQ q).cs := by
  unfold clrQ hasQ
  rcases fdQ_cases q.k with h | h | h | h | h | h | h | h | h
  all_goals
    rw [h]
    rfl

/-- Has a request what its kind does not have? -/
def othQ (q : Rq) : Bool := !(decide ((clrQ q).x = 0) && decide ((clrQ q).a = ⟨#[]⟩) && decide ((clrQ q).e = ⟨#[]⟩) && decide ((clrQ q).d = ⟨#[]⟩) && decide ((clrQ q).f = 0) && decide ((clrQ q).m = 0) && decide ((clrQ q).o = ⟨#[]⟩))

theorem Ob.eight {w : World} {p : Nat} {t : TypeId} {q : Rq} (h : Ob w p t q.cs) : w.cell? ⟨p, 0, none⟩ = some (.int .i64 q.k) ∧ w.cell? ⟨p, 1, none⟩ = some (.int .i64 q.x) ∧ w.cell? ⟨p, 2, none⟩ = some (.string q.a) ∧ w.cell? ⟨p, 3, none⟩ = some (.string q.e) ∧ w.cell? ⟨p, 4, none⟩ = some (.string q.d) ∧ w.cell? ⟨p, 5, none⟩ = some (.int .i64 q.f) ∧ w.cell? ⟨p, 6, none⟩ = some (.int .i64 q.m) ∧ w.cell? ⟨p, 7, none⟩ = some (.string q.o) :=
  ⟨h.cell (i := 0) (c := .n q.k) rfl, h.cell (i := 1) (c := .n q.x) rfl, h.cell (i := 2) (c := .s q.a) rfl, h.cell (i := 3) (c := .s q.e) rfl, h.cell (i := 4) (c := .s q.d) rfl, h.cell (i := 5) (c := .n q.f) rfl, h.cell (i := 6) (c := .n q.m) rfl, h.cell (i := 7) (c := .s q.o) rfl⟩

theorem empty19 (t : ByteArray) : t.toList = [] ↔ t = ⟨#[]⟩ := by
  rw [ByteArray.toList_eq]
  obtain ⟨⟨l⟩⟩ := t
  simp

set_option maxRecDepth 100000 in
set_option maxHeartbeats 1000000 in
theorem others19 (w : World) (q : Rq) : Calls Try.prog 25 #[.agg (rqV q)] w fun e w' => e = .returned (.bool (othQ q)) ∧ Same w w' := by
  obtain ⟨W1, hW1⟩ : ∃ W, W = w.alloc (.cells #[.int .i64 q.k, .int .i64 q.x, .string q.a, .string q.e, .string q.d, .int .i64 q.f, .int .i64 q.m, .string q.o] 24) := ⟨_, rfl⟩
  obtain ⟨p, hp⟩ : ∃ b, b = w.heap.size := ⟨_, rfl⟩
  have HK : Hid (Same w W1) := hid (by rw [hW1]; exact (Kept.refl _ w).alloc _)
  have HB : Hid (Ob W1 p 24 q.cs) := hid (by rw [hW1, hp]; exact Blk.new w (rqV q) _)
  have HP : Hid (w.heap.size ≤ p ∧ p < W1.heap.size) := hid ⟨by omega, HB.out.lt⟩
  have HF := reqf_any W1 p q HB.out
  obtain ⟨l, hl⟩ : ∃ l, l = fdQ q.k := ⟨_, rfl⟩
  have HL : Hid (l = fdQ q.k ∧ l.length ≤ 5) := hid ⟨hl, by rw [hl]; exact fdQ_len _⟩
  rw [← hl] at HF
  obtain ⟨OT, hOT⟩ : ∃ b, b = othQ q := ⟨_, rfl⟩
  have HOT := hid hOT
  rw [← hOT]
  have hm1 := Try.mnclear
  have hm2 := Try.mtclear
  clear hl hOT
  unfold rqV
  go_enter Try.func25, Try.ntmps25
  go_upto_region 1 with fail
  rw [← hW1, ← hp]
  clear hW1 hp
  go_wp2_with fail
  refine HF.mono ?_
  rintro e w2 ⟨ao, n, c, rfl, hs, hk⟩
  have HS := hid hs
  have HK2 := hid hk
  have HO2 : Hid (Ob w2 p 24 q.cs) := hid (HB.out.kept hk (fun f => f))
  have HN : Hid (n = l.length) := hid (by obtain ⟨_, _, h9, _⟩ := hs; simp only [Value.slice.injEq] at h9; exact h9.2.1)
  have hn10 : n ≤ 5 := by rw [HN.out]; exact HL.out.2
  clear hs hk HF
  go_wp2_with fail
  go_loopg [7] n (fun k z wr => ∃ i : Nat, i ≤ n ∧ n - i ≤ k ∧ z = .int .i64 (i : Nat) ∧ Hid (Ob wr p 24 (clrL q.cs (l.take i)) ∧ Kept (· = p) w2 wr))
  case atStart => exact ⟨0, by omega, by omega, rfl, hid ⟨HO2.out, Kept.refl _ _⟩⟩
  case round =>
    obtain ⟨i, hi, hk, rfl, HX⟩ := hrel
    by_cases hlt : i < n
    · obtain ⟨ao2, cap2, he, hcap, hcells⟩ := HS.out.kept (fdE_ok p) HX.out.2 (fun j hj _ f => by subst f; have := HP.out.2; omega)
      simp only [Value.slice.injEq] at he
      obtain ⟨rfl, hnl, rfl⟩ := he
      obtain ⟨b, o, rfl, hIb, hce⟩ := hcells (fun e => by rw [e] at hnl; simp at hnl; omega)
      have c0 := hce i (by omega) 0 (by decide)
      rw [Nat.mul_one, Nat.add_zero] at c0
      obtain ⟨f, hfe⟩ : ∃ f, f = l[i]'(by omega) := ⟨_, rfl⟩
      rw [← hfe] at c0
      have HFE : Hid (clrL q.cs (l.take (i + 1)) = clrF (clrL q.cs (l.take i)) f ∧ f.fits (clrL q.cs (l.take i))) := hid (by
        have hfits : ∀ g ∈ l, g.fits q.cs := by rw [HL.out.1]; exact fdQ_fits q _
        refine ⟨by rw [hfe]; exact clrL_take _ _ _ (by omega), ?_⟩
        exact (hfits f (by rw [hfe]; exact List.getElem_mem _)).alike (clrL_alike _ (fun g hg => hfits g (List.mem_of_mem_take hg))))
      have hiw : IntKind.i64.wrap ((i : Int) + 1) = ((i + 1 : Nat) : Int) := by rw [IntKind.wrap_i64]; omega
      clear hce hcells hfe hnl hcap
      cases f with
      | num j =>
        simp only [fdE, fdV, List.getElem?_cons_zero] at c0
        obtain ⟨x, hx⟩ := HFE.out.2
        have HC := nclear_any wr p j x (HX.out.1.cell hx) (HX.out.1.frozen j)
        clear hx
        go_wp2_with fail
        refine HC.mono ?_
        rintro e w3 ⟨rfl, W3, hk3, hw3⟩
        have HX2 : Hid (Ob w3 p 24 (clrL q.cs (l.take (i + 1))) ∧ Kept (· = p) w2 w3) := hid (by
          rw [HFE.out.1, hw3]
          exact ⟨(HX.out.1.kept hk3 (fun f => f)).set j (.n 0), (Kept.trans HX.out.2 hk3 (fun _ _ f => f) (fun _ _ f => f.elim)).setCell _ _ (.inl rfl)⟩)
        clear hw3 hk3 HC
        go_wp2_with fail
        go_roundg (gk - 1)
        case measure => omega
        case rel => exact ⟨i + 1, by omega, by omega, by go_num, HX2⟩
      | txt j m =>
        simp only [fdE, fdV, List.getElem?_cons_zero] at c0
        obtain ⟨⟨x, hx⟩, _⟩ := HFE.out.2
        have HC := tclear_any wr p j m x (HX.out.1.cell hx) (HX.out.1.frozen j)
        clear hx
        go_wp2_with fail
        refine HC.mono ?_
        rintro e w3 ⟨rfl, W3, hk3, hw3⟩
        have HX2 : Hid (Ob w3 p 24 (clrL q.cs (l.take (i + 1))) ∧ Kept (· = p) w2 w3) := hid (by
          rw [HFE.out.1, hw3]
          exact ⟨(HX.out.1.kept hk3 (fun f => f)).set j (.s ⟨#[]⟩), (Kept.trans HX.out.2 hk3 (fun _ _ f => f) (fun _ _ f => f.elim)).setCell _ _ (.inl rfl)⟩)
        clear hw3 hk3 HC
        go_wp2_with fail
        go_roundg (gk - 1)
        case measure => omega
        case rel => exact ⟨i + 1, by omega, by omega, by go_num, HX2⟩
    · obtain rfl : i = n := by omega
      have hli : decide (i < i) = false := by simp
      have ho : Ob wr p 24 (clrQ q).cs := by
        have h9 := HX.out.1
        rw [List.take_of_length_le (by have := HN.out; omega), HL.out.1, clr_cs] at h9
        exact h9
      obtain ⟨c0, c1, c2, c3, c4, c5, c6, c7⟩ := ho.eight
      have hot := HOT.out
      unfold othQ at hot
      obtain ⟨r, hr⟩ : ∃ r, r = clrQ q := ⟨_, rfl⟩
      rw [← hr] at c0 c1 c2 c3 c4 c5 c6 c7 hot
      have HOT2 := hid hot
      have HKF : Hid (Same w wr) := hid (Same.then (Same.trans HK.out HK2.out) HX.out.2 (fun x hx e => by have := HP.out.1; omega))
      clear ho hr hot hm1 hm2
      go_wp2_with fail
      all_goals
        go_ret
        exact ⟨congrArg (fun b => Ending.returned (Value.bool b)) (by rw [HOT2.out]; simp [*, ← empty19]), HKF.out⟩

end Go.Proofs.Ytaefgnakdadgeaa
