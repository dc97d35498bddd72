/-
  Of the proof: parts LnRep, LnTk, LnTs, LnTb, LnTc, InPt, InPn, InPc, InPs, InPs2.
-/
import Derived.Laws.Bits64b
import Derived.Test.YtggcbnhckcenmaaGreatDoorJ11
import Derived.Test.YtggcbnhckcenmaaGreatDoorJ9
import Derived.Test.YtggcbnhckcenmaaGreatDoorJ23
import Derived.Test.YtggcbnhckcenmaaGreatDoorJ22
import Derived.Test.YtggcbnhckcenmaaGreatDoorJ8
import Derived.Test.YtggcbnhckcenmaaGreatDoorJ7
import Derived.Test.YtggcbnhckcenmaaGreatDoorJ3

namespace Go.Proofs.YtggcbnhckcenmaaGreatDoor
open Go.RowKit

set_option maxHeartbeats 1000000 in
theorem mul64_one(w:World)(n:Nat)(hn:n≤1000000):
  Calls Tryz.prog 150 #[.int .u64 1,.int .u64 (n:Nat)] w fun e w'=>e=.returned (.tuple #[.int .u64 0,.int .u64 (n:Nat)])∧w'=w:=by
 have h1:bits .and .u64 1 4294967295=1:=by decide
 have h2:bits .and .u64 (n:Int) 4294967295=(n:Int):=by
  have h:=bits_and_u64_nat n 4294967295 (by omega) (by omega)
  have e:n &&& 4294967295=n % 4294967296:=Nat.and_two_pow_sub_one_eq_mod n 32
  rw[e,Nat.mod_eq_of_lt (by omega)]at h
  exact h
 have h3:(n:Int) / 4294967296=0:=by omega
 have h4:IntKind.u64.wrap (n:Int)=(n:Int):=by rw[IntKind.wrap_u64];omega
 have h5:bits .and .u64 0 4294967295=0:=by decide
 go_enter Tryz.func150,Tryz.ntmps150
 go_wp2_with fail
 go_ret2
 exact⟨rfl,rfl⟩

set_option maxHeartbeats 1000000 in
theorem mul_one(w:World)(n:Nat)(hn:n≤1000000):
  Calls Tryz.prog 122 #[.int .u64 1,.int .u64 (n:Nat)] w fun e w'=>e=.returned (.tuple #[.int .u64 0,.int .u64 (n:Nat)])∧w'=w:=by
 have HC:=mul64_one w n hn
 go_enter Tryz.func122,Tryz.ntmps122
 go_wp2_with fail
 refine HC.mono ?_
 rintro e w1 ⟨rfl,hw1⟩
 subst hw1
 clear HC
 go_wp2_with fail
 go_ret2
 exact⟨rfl,rfl⟩

theorem splice_more{α:Type}{enc:α→List Value}{k:Nat}(ok:EncOk enc k)(x y:α)(n m N:Nat)(h:n+m≤N):
  splice ((List.replicate n x++List.replicate (N-n) y).flatMap enc) (n*k) ((List.replicate m x).flatMap enc)=(List.replicate (n+m) x++List.replicate (N-(n+m)) y).flatMap enc:=by
 have e1:((List.replicate n x).flatMap enc).length=n*k:=by rw[flat_length ok,List.length_replicate]
 have e2:((List.replicate m x).flatMap enc).length=m*k:=by rw[flat_length ok,List.length_replicate]
 have e3:List.replicate (N-n) y=List.replicate m y++List.replicate (N-(n+m)) y:=by rw[List.replicate_append_replicate];congr 1;omega
 have e4:((List.replicate m y).flatMap enc).length=m*k:=by rw[flat_length ok,List.length_replicate]
 unfold splice
 rw[List.flatMap_append,e2,List.take_append_of_le_length (by omega),List.take_of_length_le (by omega),List.drop_append,List.drop_eq_nil_of_le (by omega),e1,List.nil_append,Nat.add_sub_cancel_left,e3,List.flatMap_append,←e4,List.drop_left,←List.append_assoc,←List.flatMap_append,List.replicate_append_replicate,←List.flatMap_append]

theorem flat_rep_take{α:Type}{enc:α→List Value}{k:Nat}(ok:EncOk enc k)(x y:α)(n m N:Nat)(h:m≤n):((List.replicate n x++List.replicate N y).flatMap enc).take (m*k)=(List.replicate m x).flatMap enc:=by
 have e1:List.replicate n x=List.replicate m x++List.replicate (n-m) x:=by rw[List.replicate_append_replicate];congr 1;omega
 have e2:((List.replicate m x).flatMap enc).length=m*k:=by rw[flat_length ok,List.length_replicate]
 rw[e1,List.append_assoc,List.flatMap_append,←e2,List.take_left]

def natL(n:Nat):List Value:=[natV n]
theorem natL_ok:EncOk natL 1:=⟨fun _=>rfl,fun x u hu=>by simp[natL]at hu;subst hu;rfl,by decide⟩
theorem natL_flat(xs:List Nat):xs.flatMap natL=xs.map natV:=by
 induction xs with
 | nil=>rfl
 | cons a r ih=>rw[List.flatMap_cons,ih];rfl

theorem Tryz.infoSt1:(Tryz.prog.info? 171).map (·.size)=some 2:=by kernel_rfl
theorem Tryz.infoN1:(Tryz.prog.info? 3).map (·.size)=some 1:=by kernel_rfl

set_option maxRecDepth 100000 in
set_option maxHeartbeats 2000000 in
theorem repeatS_any(w:World)(ad:Addr)(y:Int×Int)(N:Nat)(hx:CellsAt w ad (stC y))(hN:N≤1000):
  Calls Tryz.prog 160 #[.slice (some ad) 1 1,.int .i64 (N:Nat)] w fun e w'=>∃g,e=.returned (.slice (some ⟨g,0,none⟩) N N)∧RowC w.heap.size 171 2 stC w' (.slice (some ⟨g,0,none⟩) N N) (List.replicate N y)∧Same w w':=by
 have HMU:=mul_one w N (by omega)
 have HX:Hid (CellsAt w ad (stC y)):=hx
 have hxb:ad.block<w.heap.size:=by
  have h0:=hx 0
  have hl:=stC_ok.len y
  rw[List.getElem?_eq_getElem (by rw[hl];decide)]at h0
  have:=World.block_lt_of_cell? w _ (h0 _ rfl)
  unfold Addr.add at this
  split at this<;>simpa using this
 have HXB:Hid (ad.block<w.heap.size):=hxb
 have hwN:wrap64 (N:Int)=(N:Int):=by unfold wrap64;omega
 have hwU:IntKind.u64.wrap (N:Int)=(N:Int):=by rw[IntKind.wrap_u64];omega
 clear hx hxb
 obtain⟨m,hm⟩:∃m,m=Nat.min 1 N:=⟨_,rfl⟩
 have hm1:m≤1:=by rw[hm];exact Nat.min_le_left _ _
 have hmN:m≤N:=by rw[hm];exact Nat.min_le_right _ _
 have hm0:0<m∨N=0:=by
  rw[hm]
  rcases Nat.eq_zero_or_pos N with h | h
  ·exact .inr h
  ·exact .inl (Nat.lt_min.2 ⟨by decide,h⟩)
 have HM:Hid (Nat.min 1 N=m):=hid hm.symm
 clear hm
 have HE0:Hid (((List.replicate m y).flatMap stC).length=m*2):=hid (by rw[flat_length stC_ok,List.length_replicate])
 have HCS0:Hid (∀w2,Same w w2→0<((List.replicate m y).flatMap stC).length→∃a,some ad=some a∧CellsAt w2 a ((List.replicate m y).flatMap stC)):=hid (fun w2 hk h=>by
  refine⟨ad,rfl,fun j u hu=>hk.cell (HX.out j u ?_) (fun f=>f)⟩
  have:m=1:=by
   rcases Nat.eq_zero_or_pos m with e | e
   ·subst e;simp at h
   ·omega
  subst this
  simpa using hu)
 go_enter Tryz.func160,Tryz.ntmps160
 go_wp2_with fail
 refine HMU.mono ?_
 rintro e w1 ⟨rfl,hw1⟩
 subst hw1
 clear HMU
 go_wp2_with (first | (at_make;refine wpList_make_c _ stC 2 stC_ok (0,0) w1.heap.size 131 171 (.agg #[.int .i64 0,.int .i64 0]) 16 Tryz.underlying131 Tryz.infoSt rfl (by decide) rfl _ _ rfl _ _ _ _ N rfl rfl rfl rfl (by omega) (Nat.le_refl _) ?_;intro w2 hr2 hg2 hs2;have HR2:Hid (Raw w2 w1.heap.size 171 ((List.replicate N (0,0)).flatMap stC)):=hid hr2.raw;have HK2:Hid (Same w1 w2):=hid ((Kept.refl _ w1).grown hg2 (fun j e=>by cases e));clear hr2 hg2) | (with_reducible refine atCopy ?_;refine wpList_copy_k _ rfl (.tmp 31) (.tmp 32) 131 131 rfl 171 2 Tryz.underlying131 Tryz.infoSt1 w1.heap.size 0 N N (some ad) 1 1 rfl rfl _ 171 HR2.out ((List.replicate m y).flatMap stC) (by rw[HM.out];exact HE0.out) (HCS0.out _ HK2.out) (by decide) (by rw[HE0.out,flat_length stC_ok,List.length_replicate,Nat.zero_add];exact Nat.mul_le_mul_right _ hmN) (flat_one stC_ok _) m HM.out ?_;intro w3 hr3 hg3;have HR3:Hid (Raw w3 w1.heap.size 171 ((List.replicate m y++List.replicate (N-m) (0,0)).flatMap stC)):=hid (by have h:=splice_more stC_ok y (0,0) 0 m N (by omega);simp only[List.replicate_zero,List.nil_append,Nat.sub_zero,Nat.zero_mul,Nat.zero_add]at h;rw[←h];exact hr3);have HK3:Hid (Same w1 w3):=hid (HK2.out.grown hg3 (fun j e=>.inr (by injection e with e;omega)));clear hr3 hg3))
 go_loopg [8] N (fun q z wr=>∃(n:Nat),N-n≤q∧n≤N∧(0<n∨N=0)∧z=.int .i64 (n:Nat)∧Hid (Raw wr w1.heap.size 171 ((List.replicate n y++List.replicate (N-n) (0,0)).flatMap stC))∧Hid (Same w1 wr))
 case atStart=>exact⟨m,by omega,by omega,hm0,rfl,HR3,HK3⟩
 case round=>
  clear HR2 HK2 HR3 HK3 hm1 hmN hm0
  obtain⟨n,hq,hn,hn0,rfl,HR,HK⟩:=hrel
  by_cases hlt:n<N
  ·obtain⟨j,hj⟩:∃j,j=Nat.min n (N-n):=⟨_,rfl⟩
   have hjn:j≤n:=by rw[hj];exact Nat.min_le_left _ _
   have hjN:j≤N-n:=by rw[hj];exact Nat.min_le_right _ _
   have hj0:0<j:=by rw[hj];exact Nat.lt_min.2 ⟨by omega,by omega⟩
   have HJ:Hid (Nat.min n (N-n)=j):=hid hj.symm
   clear hj
   obtain⟨t,ht⟩:∃t,t=n+j:=⟨_,rfl⟩
   have htI:(n:Int)+(j:Int)=(t:Int):=by omega
   have htw:IntKind.i64.wrap (t:Int)=(t:Int):=by rw[IntKind.wrap_i64];omega
   have htN:t≤N:=by omega
   have htn:n<t:=by omega
   have HT:Hid (t=n+j):=ht
   have HE1:Hid (((List.replicate j y).flatMap stC).length=j*2):=hid (by rw[flat_length stC_ok,List.length_replicate])
   have HA1:Hid (CellsAt wr ⟨w1.heap.size,0,none⟩ ((List.replicate j y).flatMap stC)):=hid (by rw[←flat_rep_take stC_ok y (0,0) n j (N-n) hjn];exact HR.out.at _)
   have HF1:Hid (n*2+((List.replicate j y).flatMap stC).length≤((List.replicate n y++List.replicate (N-n) (0,0)).flatMap stC).length):=hid (by rw[HE1.out,flat_length stC_ok,List.length_append,List.length_replicate,List.length_replicate,←Nat.add_mul];exact Nat.mul_le_mul_right _ (by omega))
   have hNe:¬N=n:=by omega
   clear ht hjN hj0
   go_wp2_with fail
   go_region_law (refine step_copy_k rfl (.tmp 41) (.tmp 44) 131 131 rfl 171 2 Tryz.underlying131 Tryz.infoSt1 w1.heap.size (n*2) (N-n) (N-n) ⟨w1.heap.size,0,none⟩ n N (by simp[Act.eval,Act.put]) (by simp[Act.eval,Act.put]) _ 171 HR.out ((List.replicate j y).flatMap stC) (by rw[HJ.out];exact HE1.out) HA1.out HF1.out (flat_one stC_ok _) j HJ.out ?_;intro w4 hr4 hg4)
   all_goals
    have HR4:Hid (Raw w4 w1.heap.size 171 ((List.replicate t y++List.replicate (N-t) (0,0)).flatMap stC)):=hid (by have h:=splice_more stC_ok y (0,0) n j N (by have:=HT.out;omega);rw[←HT.out]at h;rw[←h];exact hr4)
    have HK4:Hid (Same w1 w4):=hid (HK.out.drew.grown hg4 (fun i e=>.inr (by injection e with e;omega)))
    clear hr4 hg4
    go_wp2_with fail
    go_roundg (gk-1)
    case measure=>omega
    case rel=>exact⟨t,by omega,htN,.inl (by omega),rfl,HR4,HK4⟩
  ·have hnN:n=N:=by omega
   have HR4:Hid (Raw wr w1.heap.size 171 ((List.replicate N y).flatMap stC)):=hid (by have h:=HR.out;rw[hnN,Nat.sub_self]at h;simpa using h)
   clear hnN HR
   go_wp2_with fail
   go_ret
   refine⟨_,rfl,?_,HK.out⟩
   have h:=HR4.out.row (B:=w1.heap.size) stC_ok (Nat.le_refl _) (by simp[maxLen];omega)
   rw[List.length_replicate]at h
   exact h

set_option maxRecDepth 100000 in
set_option maxHeartbeats 2000000 in
theorem repeatN_any(w:World)(ad:Addr)(y:Nat)(N:Nat)(hx:CellsAt w ad (natL y))(hN:N≤1000):
  Calls Tryz.prog 90 #[.slice (some ad) 1 1,.int .i64 (N:Nat)] w fun e w'=>∃g,e=.returned (.slice (some ⟨g,0,none⟩) N N)∧RowC w.heap.size 3 1 natL w' (.slice (some ⟨g,0,none⟩) N N) (List.replicate N y)∧Same w w':=by
 have HMU:=mul_one w N (by omega)
 have HX:Hid (CellsAt w ad (natL y)):=hx
 have hxb:ad.block<w.heap.size:=by
  have h0:=hx 0
  have hl:=natL_ok.len y
  rw[List.getElem?_eq_getElem (by rw[hl];decide)]at h0
  have:=World.block_lt_of_cell? w _ (h0 _ rfl)
  unfold Addr.add at this
  split at this<;>simpa using this
 have HXB:Hid (ad.block<w.heap.size):=hxb
 have hwN:wrap64 (N:Int)=(N:Int):=by unfold wrap64;omega
 have hwU:IntKind.u64.wrap (N:Int)=(N:Int):=by rw[IntKind.wrap_u64];omega
 clear hx hxb
 obtain⟨m,hm⟩:∃m,m=Nat.min 1 N:=⟨_,rfl⟩
 have hm1:m≤1:=by rw[hm];exact Nat.min_le_left _ _
 have hmN:m≤N:=by rw[hm];exact Nat.min_le_right _ _
 have hm0:0<m∨N=0:=by
  rw[hm]
  rcases Nat.eq_zero_or_pos N with h | h
  ·exact .inr h
  ·exact .inl (Nat.lt_min.2 ⟨by decide,h⟩)
 have HM:Hid (Nat.min 1 N=m):=hid hm.symm
 clear hm
 have HE0:Hid (((List.replicate m y).flatMap natL).length=m*1):=hid (by rw[flat_length natL_ok,List.length_replicate])
 have HCS0:Hid (∀w2,Same w w2→0<((List.replicate m y).flatMap natL).length→∃a,some ad=some a∧CellsAt w2 a ((List.replicate m y).flatMap natL)):=hid (fun w2 hk h=>by
  refine⟨ad,rfl,fun j u hu=>hk.cell (HX.out j u ?_) (fun f=>f)⟩
  have:m=1:=by
   rcases Nat.eq_zero_or_pos m with e | e
   ·subst e;simp at h
   ·omega
  subst this
  simpa using hu)
 go_enter Tryz.func90,Tryz.ntmps90
 go_wp2_with fail
 refine HMU.mono ?_
 rintro e w1 ⟨rfl,hw1⟩
 subst hw1
 clear HMU
 go_wp2_with (first | (at_make;refine wpList_make_c _ natL 1 natL_ok 0 w1.heap.size 45 3 (.int .i64 0) 8 Tryz.underlying45 Tryz.infoN rfl (by decide) rfl _ _ rfl _ _ _ _ N rfl rfl rfl rfl (by omega) (Nat.le_refl _) ?_;intro w2 hr2 hg2 hs2;have HR2:Hid (Raw w2 w1.heap.size 3 ((List.replicate N 0).flatMap natL)):=hid hr2.raw;have HK2:Hid (Same w1 w2):=hid ((Kept.refl _ w1).grown hg2 (fun j e=>by cases e));clear hr2 hg2) | (with_reducible refine atCopy ?_;refine wpList_copy_k _ rfl (.tmp 31) (.tmp 32) 45 45 rfl 3 1 Tryz.underlying45 Tryz.infoN1 w1.heap.size 0 N N (some ad) 1 1 rfl rfl _ 3 HR2.out ((List.replicate m y).flatMap natL) (by rw[HM.out];exact HE0.out) (HCS0.out _ HK2.out) (by decide) (by rw[HE0.out,flat_length natL_ok,List.length_replicate,Nat.zero_add];exact Nat.mul_le_mul_right _ hmN) (flat_one natL_ok _) m HM.out ?_;intro w3 hr3 hg3;have HR3:Hid (Raw w3 w1.heap.size 3 ((List.replicate m y++List.replicate (N-m) 0).flatMap natL)):=hid (by have h:=splice_more natL_ok y 0 0 m N (by omega);simp only[List.replicate_zero,List.nil_append,Nat.sub_zero,Nat.zero_mul,Nat.zero_add]at h;rw[←h];exact hr3);have HK3:Hid (Same w1 w3):=hid (HK2.out.grown hg3 (fun j e=>.inr (by injection e with e;omega)));clear hr3 hg3))
 go_loopg [8] N (fun q z wr=>∃(n:Nat),N-n≤q∧n≤N∧(0<n∨N=0)∧z=.int .i64 (n:Nat)∧Hid (Raw wr w1.heap.size 3 ((List.replicate n y++List.replicate (N-n) 0).flatMap natL))∧Hid (Same w1 wr))
 case atStart=>exact⟨m,by omega,by omega,hm0,rfl,HR3,HK3⟩
 case round=>
  clear HR2 HK2 HR3 HK3 hm1 hmN hm0
  obtain⟨n,hq,hn,hn0,rfl,HR,HK⟩:=hrel
  by_cases hlt:n<N
  ·obtain⟨j,hj⟩:∃j,j=Nat.min n (N-n):=⟨_,rfl⟩
   have hjn:j≤n:=by rw[hj];exact Nat.min_le_left _ _
   have hjN:j≤N-n:=by rw[hj];exact Nat.min_le_right _ _
   have hj0:0<j:=by rw[hj];exact Nat.lt_min.2 ⟨by omega,by omega⟩
   have HJ:Hid (Nat.min n (N-n)=j):=hid hj.symm
   clear hj
   obtain⟨t,ht⟩:∃t,t=n+j:=⟨_,rfl⟩
   have htI:(n:Int)+(j:Int)=(t:Int):=by omega
   have htw:IntKind.i64.wrap (t:Int)=(t:Int):=by rw[IntKind.wrap_i64];omega
   have htN:t≤N:=by omega
   have htn:n<t:=by omega
   have HT:Hid (t=n+j):=ht
   have HE1:Hid (((List.replicate j y).flatMap natL).length=j*1):=hid (by rw[flat_length natL_ok,List.length_replicate])
   have HA1:Hid (CellsAt wr ⟨w1.heap.size,0,none⟩ ((List.replicate j y).flatMap natL)):=hid (by rw[←flat_rep_take natL_ok y 0 n j (N-n) hjn];exact HR.out.at _)
   have HF1:Hid (n*1+((List.replicate j y).flatMap natL).length≤((List.replicate n y++List.replicate (N-n) 0).flatMap natL).length):=hid (by rw[HE1.out,flat_length natL_ok,List.length_append,List.length_replicate,List.length_replicate,←Nat.add_mul];exact Nat.mul_le_mul_right _ (by omega))
   have hNe:¬N=n:=by omega
   clear ht hjN hj0
   go_wp2_with fail
   go_region_law (refine step_copy_k rfl (.tmp 41) (.tmp 44) 45 45 rfl 3 1 Tryz.underlying45 Tryz.infoN1 w1.heap.size (n*1) (N-n) (N-n) ⟨w1.heap.size,0,none⟩ n N (by simp[Act.eval,Act.put]) (by simp[Act.eval,Act.put]) _ 3 HR.out ((List.replicate j y).flatMap natL) (by rw[HJ.out];exact HE1.out) HA1.out HF1.out (flat_one natL_ok _) j HJ.out ?_;intro w4 hr4 hg4)
   all_goals
    have HR4:Hid (Raw w4 w1.heap.size 3 ((List.replicate t y++List.replicate (N-t) 0).flatMap natL)):=hid (by have h:=splice_more natL_ok y 0 n j N (by have:=HT.out;omega);rw[←HT.out]at h;rw[←h];exact hr4)
    have HK4:Hid (Same w1 w4):=hid (HK.out.drew.grown hg4 (fun i e=>.inr (by injection e with e;omega)))
    clear hr4 hg4
    go_wp2_with fail
    go_roundg (gk-1)
    case measure=>omega
    case rel=>exact⟨t,by omega,htN,.inl (by omega),rfl,HR4,HK4⟩
  ·have hnN:n=N:=by omega
   have HR4:Hid (Raw wr w1.heap.size 3 ((List.replicate N y).flatMap natL)):=hid (by have h:=HR.out;rw[hnN,Nat.sub_self]at h;simpa using h)
   clear hnN HR
   go_wp2_with fail
   go_ret
   refine⟨_,rfl,?_,HK.out⟩
   have h:=HR4.out.row (B:=w1.heap.size) natL_ok (Nat.le_refl _) (by simp[maxLen];omega)
   rw[List.length_replicate]at h
   exact h

end Go.Proofs.YtggcbnhckcenmaaGreatDoor

namespace Go.Proofs.YtggcbnhckcenmaaGreatDoor
open Go.RowKit

def numsAt(ls:List Nat)(c:Nat):List Nat→List Nat
 | []=>[]
 | n::r=>numAt ls c n::numsAt ls (c+n) r

theorem numsAt_snoc(ls:List Nat)(c:Nat)(ws:List Nat)(n:Nat):numsAt ls c (ws++[n])=numsAt ls c ws++[numAt ls (c+ws.sum) n]:=by
 induction ws generalizing c with
 | nil=>simp[numsAt]
 | cons a r ih=>simp only[List.cons_append,numsAt,ih,List.sum_cons,Nat.add_assoc]

theorem numsAt_length(ls:List Nat)(c:Nat)(ws:List Nat):(numsAt ls c ws).length=ws.length:=by
 induction ws generalizing c with
 | nil=>rfl
 | cons a r ih=>simp[numsAt,ih]

theorem sum_take_le(ws:List Nat)(i:Nat)(hi:i<ws.length):(ws.take i).sum+ws[i]≤ws.sum:=by
 have h:(ws.take (i+1)).sum+(ws.drop (i+1)).sum=ws.sum:=by rw[←List.sum_append,List.take_append_drop]
 rw[List.take_succ_eq_append_getElem hi,List.sum_append]at h
 simp at h
 omega

theorem num_bits(bs:List Nat)(hb:∀b∈bs,b<256)(c n:Nat)(h:c+n≤8*bs.length):n256 bs / 2 ^ c % 2 ^ n=numAt (ofBytes bs) c n:=(left_n2 bs hb c n h).symm

def TakeA(w w':World)(p:Nat)(s:Value)(bs:List Nat)(c:Nat)(ws:List Nat)(e:Ending):Prop:=
 (c+ws.sum≤8*bs.length∧(∃v',e=.returned (.tuple #[v',.int .i64 0])∧NRow w.heap.size w' v' (numsAt (ofBytes bs) c ws))∧St w' p s bs (c+ws.sum)) ∨
 (8*bs.length<c+ws.sum∧e=.returned (.tuple #[.slice none 0 0,.int .i64 10])∧∃c',c≤c'∧c'≤8*bs.length∧St w' p s bs c')

set_option maxRecDepth 100000 in
set_option maxHeartbeats 2000000 in
theorem ltake_any(w:World)(p c:Nat)(s:Value)(bs:List Nat)(v:Value)(I:Nat→Prop)(ws:List Nat)(hst:St w p s bs c)(hc:c≤8*bs.length)(hlen:bs.length≤100000000)(hs:SrcE natV w I v ws)(hI:∀k,I k→k≠p)(hws:∀n∈ws,n≤32)(hwl:ws.length≤1000):
  Calls Tryz.prog 176 #[.pointer (some ⟨p,0,none⟩),v] w fun e w'=>TakeA w w' p s bs c ws e∧Kept (·=p) w w':=by
 obtain⟨ao,cap,rfl,hx1,hx2⟩:=id hs
 clear hx1 hx2
 have HS:Hid (SrcE natV w I (.slice ao ws.length cap) ws):=hs
 have HST:Hid (St w p s bs c):=hst
 have HP:Hid (∀k,Fp p s k→k<w.heap.size):=hid (fun k h=>hst.fp_lt h)
 have HWS:Hid (∀n∈ws,n≤32):=hws
 have HI:Hid (∀k,I k→k≠p):=hI
 have HB:Hid (∀b∈bs,b<256):=hst.byte
 clear hs hst hws hI
 go_enter Tryz.func176,Tryz.ntmps176
 go_wp2_with fail
 go_loopg [6,8,9,10,13] ws.length (fun q zo _ _ _ zi wr=>∃(i:Nat),ws.length-i≤q∧i≤ws.length∧zi=.int .i64 (i:Nat)∧Hid (c+(ws.take i).sum≤8*bs.length)∧Hid (NRow w.heap.size wr zo (numsAt (ofBytes bs) c (ws.take i)))∧Hid (St wr p s bs (c+(ws.take i).sum))∧Hid (Kept (·=p) w wr))
 case atStart=>exact⟨0,by omega,by omega,rfl,hid (by simpa using hc),hid (by simpa[numsAt]using RowE.nil),hid (by simpa using HST.out),Kept.refl _ _⟩
 case round=>
  clear HST
  obtain⟨i,hq,hi,rfl,HC,HV,HST,HK⟩:=hrel
  have hsz:=HK.out.size
  by_cases hlt:i<ws.length
  ·obtain⟨b,o,cap',e,hIb,_,cx⟩:=(HS.out.kept HK.out (fun k h _=>HI.out k h)).get i hlt
   simp only[Value.slice.injEq]at e
   obtain⟨rfl,hxe,rfl⟩:=e
   clear hxe hIb
   obtain⟨n,hn⟩:∃n,n=ws[i]:=⟨_,rfl⟩
   rw[←hn]at cx
   unfold natV at cx
   have hn32:n≤32:=by rw[hn];exact HWS.out _ (List.getElem_mem _)
   obtain⟨ci,hci⟩:∃ci,ci=c+(ws.take i).sum:=⟨_,rfl⟩
   rw[←hci]at HC HST
   have hci0:c≤ci:=by omega
   have HSUM:Hid (c+(ws.take (i+1)).sum=ci+n):=hid (by rw[List.take_succ_eq_append_getElem hlt,List.sum_append,hci,hn];simp;omega)
   have HTOT:Hid (ci+n≤c+ws.sum):=hid (by have:=sum_take_le ws i hlt;rw[hci,hn];omega)
   have HNUM:Hid (numsAt (ofBytes bs) c (ws.take (i+1))=numsAt (ofBytes bs) c (ws.take i)++[numAt (ofBytes bs) ci n]):=hid (by rw[List.take_succ_eq_append_getElem hlt,numsAt_snoc,hci,hn])
   have hnl:(numsAt (ofBytes bs) c (ws.take i)).length≤1000:=by rw[numsAt_length];simp;omega
   clear hn hci
   by_cases hfit:ci+n≤8*bs.length
   ·have HT:=take_good p ci n s bs wr HST.out (by omega) hn32 hfit
    rw[num_bits bs HB.out ci n hfit]at HT
    obtain⟨x,hx⟩:∃x,x=numAt (ofBytes bs) ci n:=⟨_,rfl⟩
    have hxl:x<2 ^ 32:=by
     rw[hx]
     exact Nat.lt_of_lt_of_le (numAt_lt _ (ofBytes_lt bs) _ _) (Nat.pow_le_pow_right (by decide) hn32)
    rw[←hx]at HT HNUM
    have hxw:wrap64 (x:Int)=(x:Int):=by unfold wrap64;omega
    have HF:Hid (ci+n≤8*bs.length):=hfit
    clear hx hfit
    go_wp2_with fail
    refine HT.mono ?_
    rintro e w2 ⟨rfl,hs2,hk2⟩
    have HST2:Hid (St w2 p s bs (ci+n)):=hs2
    have HK2:Hid (Kept (·=p) w w2):=hid (Kept.trans HK.out hk2 (fun _ _ h=>h) (fun _ _ h=>h))
    have HV2:Hid (NRow w.heap.size w2 u6 (numsAt (ofBytes bs) c (ws.take i))):=hid (HV.out.kept hk2 (fun k e h=>by have h1:=HV.out.ge e;have h2:=HP.out p (.inl rfl);omega))
    have hsz2:=HK2.out.size
    clear hs2 hk2 HT
    go_wp2_with (at_builtin;refine wpList_append_e _ natV natV_one w.heap.size 45 3 (natV 0) 8 Tryz.underlying45 Tryz.infoN rfl (by decide) rfl (.tmp 26) (.tmp 29) rfl u6 _ rfl (World.ownsRow.alloc HV2.out _) ⟨w2.heap.size,0,none⟩ 1 1 [x] rfl rfl (cellsAt_new _ _ _) (by simp;omega) (by simp;omega) ?_;intro v5 w5 hr5 hg5;have HV5:Hid (NRow w.heap.size w5 v5 (numsAt (ofBytes bs) c (ws.take (i+1)))):=hid (by rw[HNUM.out];exact hr5);have HK5':Hid (Kept (fun k=>u6.ownBlock=some k) w2 w5):=hid (((Kept.refl _ w2).alloc _).grown hg5 (fun _ e=>.inl e));have HST5:Hid (St w5 p s bs (c+(ws.take (i+1)).sum)):=hid (by rw[HSUM.out];exact HST2.out.kept HK5'.out (fun k h e=>by have h1:=HV2.out.ge e;have h2:=HP.out k h;omega));have HK5:Hid (Kept (·=p) w w5):=hid (Kept.trans HK2.out HK5'.out (fun _ _ h=>h) (fun k hk e=>by have:=HV2.out.ge e;omega));clear hr5 hg5)
    go_roundg (gk-1)
    case measure=>omega
    case rel=>exact⟨i+1,by omega,by omega,by go_num,hid (by rw[HSUM.out];exact HF.out),HV5,HST5,HK5⟩
   ·have HT:=take_end p ci n s bs wr HST.out HC.out (by omega) hn32 (by omega)
    have HE:Hid (8*bs.length<c+ws.sum):=hid (by have:=HTOT.out;omega)
    clear hfit
    go_wp2_with fail
    refine HT.mono ?_
    rintro e w2 ⟨rfl,m,hw2⟩
    subst hw2
    clear HT
    go_wp2_with fail
    go_ret2
    exact⟨.inr ⟨HE.out,rfl,ci,hci0,HC.out,HST.out.drewN _⟩,HK.out.drewN _⟩
  ·have hil:i=ws.length:=by omega
   subst hil
   have e1:ws.take ws.length=ws:=List.take_of_length_le (Nat.le_refl _)
   have HC2:Hid (c+ws.sum≤8*bs.length):=hid (by have h:=HC.out;rw[e1]at h;exact h)
   have HV2:Hid (NRow w.heap.size wr u6 (numsAt (ofBytes bs) c ws)):=hid (by have h:=HV.out;rw[e1]at h;exact h)
   have HST2:Hid (St wr p s bs (c+ws.sum)):=hid (by have h:=HST.out;rw[e1]at h;exact h)
   clear HC HV HST e1
   go_wp2_with fail
   go_ret2
   exact⟨.inl ⟨HC2.out,⟨_,rfl,HV2.out⟩,HST2.out⟩,HK.out⟩

theorem rest_lt2(bs:List Nat)(hb:∀b∈bs,b<256)(c:Nat)(hc:c≤8*bs.length):n256 bs / 2 ^ c<2 ^ (8*bs.length-c):=by
 have h:=n256_lt bs hb
 rw[pow8]at h
 refine(Nat.div_lt_iff_lt_mul (Nat.two_pow_pos c)).2 ?_
 rw[←Nat.pow_add,show 8*bs.length-c+c=8*bs.length by omega]
 exact h

theorem lnext_any(w:World)(d:Nat)(vc vs:Value)(zs:List Int)(ns:List Nat)(p c:Nat)(s:Value)(bs:List Nat)(hg:Good zs ns)(hd:Dec w d vc vs ns)(hs:St w p s bs c)(hc:c≤8*bs.length)(hlen:bs.length≤100000000)(hdis:∀k,DF d vc vs k→¬Fp p s k):
  Calls Tryz.prog 145 #[.pointer (some ⟨d,0,none⟩),.pointer (some ⟨p,0,none⟩)] w fun e w'=>e=.returned (.tuple #[.int .i64 ((nextF ns ((ofBytes bs).drop c)).1:Nat),.int .i64 ((nextF ns ((ofBytes bs).drop c)).2.2:Nat)])∧St w' p s bs (c+(nextF ns ((ofBytes bs).drop c)).2.1)∧c+(nextF ns ((ofBytes bs).drop c)).2.1≤8*bs.length∧Kept (·=p) w w':=by
 refine(next_any w d vc vs ns p c s bs hd (mx_le ns 15 hg.le) hg.max hs hc hlen hdis).mono ?_
 rintro e w' ⟨⟨sym,long,er,rfl,hans,hst⟩,hk⟩
 have hr:=nextF_is ns ((ofBytes bs).drop c)
 obtain⟨h1,h2,h3⟩:=next_same hg bs hs.byte c hc (rest_lt2 bs hs.byte c hc) hans hr
 rw[h1,h2,h3]
 refine⟨rfl,hst,?_,hk⟩
 rcases hans with⟨_,_,_,h,_⟩ | ⟨_,_,h,_,_⟩ | ⟨_,_,h,_,_⟩
 ·omega
 ·omega
 ·omega

def RStepA(w':World)(p:Nat)(s:Value)(bs:List Nat)(c:Nat)(e:Ending):Except Nat ((Nat×Nat)×Nat)→Prop
 | .error er=>e=.returned (.tuple #[.agg #[.int .i64 0,.int .i64 0],.int .i64 (er:Nat)])∧er≠0∧∃c',c≤c'∧c'≤8*bs.length∧St w' p s bs c'
 | .ok (x,c')=>e=.returned (.tuple #[.agg #[.int .i64 (x.1:Nat),.int .i64 (x.2:Nat)],.int .i64 0])∧c'≤8*bs.length∧St w' p s bs c'

end Go.Proofs.YtggcbnhckcenmaaGreatDoor

namespace Go.Proofs.YtggcbnhckcenmaaGreatDoor
open Go.RowKit

set_option maxRecDepth 100000 in
set_option maxHeartbeats 2000000 in
theorem lstep_any(w:World)(d:Nat)(vc vs:Value)(zs:List Int)(ns:List Nat)(p c:Nat)(s:Value)(bs:List Nat)(hg:Good zs ns)(hd:Dec w d vc vs ns)(hs:St w p s bs c)(hc:c≤8*bs.length)(hlen:bs.length≤100000000)(hdis:∀k,DF d vc vs k→¬Fp p s k):
  Calls Tryz.prog 182 #[.pointer (some ⟨p,0,none⟩),.pointer (some ⟨d,0,none⟩)] w fun e w'=>RStepA w' p s bs c e (stepF ns (ofBytes bs) c)∧Kept (·=p) w w':=by
 obtain⟨W,hW⟩:∃W,W=w.alloc (.cells #[.int .i64 0,.int .i64 0] 171):=⟨_,rfl⟩
 have hk0:Same w W:=by rw[hW];exact(Kept.refl _ w).alloc _
 have HN:=lnext_any W d vc vs zs ns p c s bs hg (hd.kept hk0 (fun _ _ f=>f)) (hs.kept hk0 (fun _ _ f=>f)) hc hlen hdis
 have HK0:Hid (Same w W):=hk0
 have HBK:Hid (Blk W w.heap.size #[.int .i64 0,.int .i64 0] 171):=hid (by rw[hW];exact Blk.new w _ _)
 have hpw:p<w.heap.size:=hs.lt
 have HB:Hid (∀b∈bs,b<256):=hs.byte
 obtain⟨sym,long,er,hnf⟩:∃a b c',nextF ns ((ofBytes bs).drop c)=(a,b,c'):=⟨_,_,_,rfl⟩
 rw[hnf]at HN
 simp only at HN
 have HF:Hid (stepF ns (ofBytes bs) c=if er≠0 then .error er else if 8*bs.length<c+long+xbits sym then .error 10 else .ok ((sym,numAt (ofBytes bs) (c+long) (xbits sym)),c+long+xbits sym)):=hid (by
  unfold stepF
  rw[hnf,ofBytes_length])
 have HSH:=fun W2=>shape_any W2 (sym:Int)
 rw[widthM_nat]at HSH
 have hx7:=xbits_le sym
 obtain⟨xb,hxb⟩:∃x,x=xbits sym:=⟨_,rfl⟩
 rw[←hxb]at HF HSH hx7
 have HP:Hid (∀k,Fp p s k→k<w.heap.size):=hid (fun k h=>hs.fp_lt h)
 clear hd hs hdis hnf hk0 hxb
 go_enter Tryz.func182,Tryz.ntmps182
 go_wp2_with fail
 rw[←hW]
 clear hW
 refine HN.mono ?_
 rintro e w2 ⟨rfl,hs2,hc2,hk2⟩
 have HST2:Hid (St w2 p s bs (c+long)):=hs2
 have HK2:Hid (Kept (·=p) W w2):=hk2
 have HB2:Hid (Blk w2 w.heap.size #[.int .i64 0,.int .i64 0] 171):=hid (HBK.out.kept hk2 (by omega))
 have f1:w2.frozen? ⟨w.heap.size,0,none⟩=false:=HB2.out.frozen 0
 have f2:w2.frozen? ⟨w.heap.size,1,none⟩=false:=HB2.out.frozen 1
 have c1:w2.cell? ⟨w.heap.size,0,none⟩=some (.int .i64 0):=HB2.out.cell 0
 have c2:w2.cell? ⟨w.heap.size,1,none⟩=some (.int .i64 0):=HB2.out.cell 1
 have hcl:c≤c+long:=by omega
 have HKW:Hid (Kept (·=p) w w2):=hid (Kept.trans (HK0.out.mono (fun _ _ f=>f.elim)) hk2 (fun _ _ h=>h) (fun _ _ h=>h))
 clear hs2 hk2 HN
 by_cases her:er=0
 ·have hed:((er:Int) != 0)=false:=by simp;omega
  have HER:Hid (er=0):=her
  have her0:(er:Int)=0:=by omega
  clear her
  go_wp2_with fail
  refine(HSH _).mono ?_
  rintro e w3 ⟨rfl,hw3⟩
  subst hw3
  clear HSH
  by_cases hfit:c+long+xb≤8*bs.length
  ·have HT:=take_good p (c+long) xb s bs w3 HST2.out (by omega) (by omega) hfit
   rw[num_bits bs HB.out _ xb hfit]at HT
   obtain⟨x,hx⟩:∃x,x=numAt (ofBytes bs) (c+long) xb:=⟨_,rfl⟩
   have hxl:x<2 ^ 7:=by
    rw[hx]
    exact Nat.lt_of_lt_of_le (numAt_lt _ (ofBytes_lt bs) _ _) (Nat.pow_le_pow_right (by decide) hx7)
   rw[←hx]at HT HF
   have hxw:wrap64 (x:Int)=(x:Int):=by unfold wrap64;omega
   have HE:Hid (stepF ns (ofBytes bs) c=.ok ((sym,x),c+long+xb)):=hid (by rw[HF.out,HER.out,if_neg (by simp),if_neg (by omega)])
   have HFIT:Hid (c+long+xb≤8*bs.length):=hfit
   clear hx hfit
   go_wp2_with fail
   refine HT.mono ?_
   rintro e w4 ⟨rfl,hs4,hk4⟩
   have HST4:Hid (St w4 p s bs (c+long+xb)):=hs4
   have HB4:Hid (Blk w4 w.heap.size #[.int .i64 0,.int .i64 0] 171):=hid (HB2.out.kept hk4 (by omega))
   have HK4:Hid (Kept (·=p) w w4):=hid (Kept.trans HKW.out hk4 (fun _ _ h=>h) (fun _ _ h=>h))
   have f3:w4.frozen? ⟨w.heap.size,0,none⟩=false:=HB4.out.frozen 0
   have f4:w4.frozen? ⟨w.heap.size,1,none⟩=false:=HB4.out.frozen 1
   have c3:w4.cell? ⟨w.heap.size,0,none⟩=some (.int .i64 0):=HB4.out.cell 0
   have c4:w4.cell? ⟨w.heap.size,1,none⟩=some (.int .i64 0):=HB4.out.cell 1
   clear hs4 hk4 HT f1 f2 c1 c2
   go_wp2_with fail
   have HKF:Hid (Kept (·=w.heap.size) w4 ((w4.setCell ⟨w.heap.size,0,none⟩ (.int .i64 (sym:Nat))).setCell ⟨w.heap.size,1,none⟩ (.int .i64 (x:Nat)))):=hid (((Kept.refl (·=w.heap.size) w4).setCell ⟨w.heap.size,0,none⟩ _ (.inl rfl)).setCell ⟨w.heap.size,1,none⟩ _ (.inl rfl))
   refine bodyPost_ret (v:=.tuple #[.agg #[.int .i64 (sym:Nat),.int .i64 (x:Nat)],.int .i64 0]) (by simp[results,Tryz.results182,go_sem,c3,c4]) rfl ?_
   refine⟨?_,Kept.trans HK4.out HKF.out (fun _ _ h=>h) (fun k hk e=>by omega)⟩
   rw[HE.out]
   exact⟨rfl,HFIT.out,HST4.out.kept HKF.out (fun k h e=>by have:=HP.out k h;omega)⟩
  ·have HT:=take_end p (c+long) xb s bs w3 HST2.out hc2 (by omega) (by omega) (by omega)
   have HE:Hid (stepF ns (ofBytes bs) c=.error 10):=hid (by rw[HF.out,HER.out,if_neg (by simp),if_pos (by omega)])
   clear hfit
   go_wp2_with fail
   refine HT.mono ?_
   rintro e w4 ⟨rfl,m,hw4⟩
   subst hw4
   clear HT
   go_wp2_with fail
   have HKF:Hid (Kept (·=w.heap.size) w3 (((w3.drewN m).setCell ⟨w.heap.size,0,none⟩ (.int .i64 0)).setCell ⟨w.heap.size,1,none⟩ (.int .i64 0))):=hid ((((Kept.refl (·=w.heap.size) w3).drewN m).setCell ⟨w.heap.size,0,none⟩ _ (.inl rfl)).setCell ⟨w.heap.size,1,none⟩ _ (.inl rfl))
   refine bodyPost_ret (v:=.tuple #[.agg #[.int .i64 0,.int .i64 0],.int .i64 10]) (by simp[results,Tryz.results182,go_sem,c1,c2]) rfl ?_
   refine⟨?_,Kept.trans HKW.out HKF.out (fun _ _ h=>h) (fun k hk e=>by omega)⟩
   rw[HE.out]
   exact⟨rfl,by decide,c+long,hcl,hc2,HST2.out.kept HKF.out (fun k h e=>by have:=HP.out k h;omega)⟩
 ·have hed:((er:Int) != 0)=true:=by simp;omega
  have HE:Hid (stepF ns (ofBytes bs) c=.error er):=hid (by rw[HF.out,if_pos her])
  have HER:Hid (er≠0):=her
  clear her
  go_wp2_with fail
  have HKF:Hid (Kept (·=w.heap.size) w2 ((w2.setCell ⟨w.heap.size,0,none⟩ (.int .i64 0)).setCell ⟨w.heap.size,1,none⟩ (.int .i64 0))):=hid (((Kept.refl (·=w.heap.size) w2).setCell ⟨w.heap.size,0,none⟩ _ (.inl rfl)).setCell ⟨w.heap.size,1,none⟩ _ (.inl rfl))
  refine bodyPost_ret (v:=.tuple #[.agg #[.int .i64 0,.int .i64 0],.int .i64 (er:Nat)]) (by simp[results,Tryz.results182,go_sem,c1,c2]) rfl ?_
  refine⟨?_,Kept.trans HKW.out HKF.out (fun _ _ h=>h) (fun k hk e=>by omega)⟩
  rw[HE.out]
  exact⟨rfl,HER.out,c+long,hcl,hc2,HST2.out.kept HKF.out (fun k h e=>by have:=HP.out k h;omega)⟩

end Go.Proofs.YtggcbnhckcenmaaGreatDoor

namespace Go.Proofs.YtggcbnhckcenmaaGreatDoor
open Go.RowKit

def RStepsA(w w':World)(p:Nat)(s:Value)(bs:List Nat)(c:Nat)(e:Ending):Except Nat (List Nat×Nat)→Prop
 | .error er=>e=.returned (.tuple #[.slice none 0 0,.int .i64 (er:Nat)])∧er≠0∧∃c',c≤c'∧c'≤8*bs.length∧St w' p s bs c'
 | .ok (l,c')=>(∃v',e=.returned (.tuple #[v',.int .i64 0])∧NRow w.heap.size w' v' l)∧c'≤8*bs.length∧St w' p s bs c'

set_option maxRecDepth 100000 in
set_option maxHeartbeats 2000000 in
theorem lsteps_any(w:World)(d:Nat)(vc vs:Value)(zs:List Int)(ns:List Nat)(p c:Nat)(s:Value)(bs:List Nat)(N:Nat)(hg:Good zs ns)(hd:Dec w d vc vs ns)(hs:St w p s bs c)(hc:c≤8*bs.length)(hlen:bs.length≤100000000)(hdis:∀k,DF d vc vs k→¬Fp p s k)(hN:N≤1000):
  Calls Tryz.prog 178 #[.pointer (some ⟨p,0,none⟩),.pointer (some ⟨d,0,none⟩),.int .i64 (N:Nat)] w fun e w'=>RStepsA w w' p s bs c e (bodyF ns (ofBytes bs) N N [] c)∧Kept (·=p) w w':=by
 have HG:Hid (Good zs ns):=hg
 have HD:Hid (Dec w d vc vs ns):=hd
 have HST:Hid (St w p s bs c):=hs
 have HDIS:Hid (∀k,DF d vc vs k→¬Fp p s k):=hdis
 have HP:Hid (∀k,Fp p s k→k<w.heap.size):=hid (fun k h=>hs.fp_lt h)
 clear hg hd hs hdis
 go_enter Tryz.func178,Tryz.ntmps178
 go_wp2_with fail
 go_loopg [8,9,10] N (fun q zo _ _ wr=>∃(l:List Nat) (f ci:Nat),N-l.length≤q∧N-l.length≤f∧c≤ci∧ci≤8*bs.length∧Hid (bodyF ns (ofBytes bs) N N [] c=bodyF ns (ofBytes bs) N f l ci)∧Hid (l.length≤N∧∀x∈l,x≤15)∧Hid (NRow w.heap.size wr zo l)∧Hid (St wr p s bs ci)∧Hid (Kept (·=p) w wr))
 case atStart=>exact⟨[],N,c,by simp,by simp,by omega,hc,rfl,hid ⟨by simp,by simp⟩,RowE.nil,HST,Kept.refl _ _⟩
 case round=>
  clear HST
  obtain⟨l,f,ci,hq,hf,hci,hci8,HBF,HLL,HV,HST,HK⟩:=hrel
  have hsz:=HK.out.size
  have hl1:l.length≤1000000:=by have:=HLL.out.1;omega
  obtain⟨a8,cap8,hv8,_⟩:=HV.out.shape
  subst hv8
  have HDW:Hid (Dec wr d vc vs ns):=hid (HD.out.kept HK.out (fun k h e=>HDIS.out k h (.inl e)))
  have HRS:=lstep_any wr d vc vs zs ns p ci s bs HG.out HDW.out HST.out hci8 hlen HDIS.out
  have HMS:=fun(W:World) (x y:Int)=>mayStand_any W x y l.length N hl1
  have HSAYS:=fun(W:World) (x y:Int) (hr:NRow w.heap.size W (.slice a8 l.length cap8) l) (hB:w.heap.size≤W.heap.size) (hm:mayB (x,y) l.length N)=>say_any W w.heap.size _ l x y N hr hB hl1 hm
  by_cases hlt:l.length<N
  ·obtain⟨f,rfl⟩:∃g,f=g+1:=⟨f-1,by omega⟩
   obtain⟨L,hL⟩:∃L,L=l.length:=⟨_,rfl⟩
   have HL:Hid (L=l.length):=hL
   cases hsf:stepF ns (ofBytes bs) ci with
   | error er=>
    rw[hsf]at HRS
    have HE:Hid (bodyF ns (ofBytes bs) N N [] c=.error er):=hid (by rw[HBF.out,bodyF_err hlt hsf])
    rw[←hL]at HV hq hf hl1 hlt HMS HSAYS ⊢
    clear hsf hL HMS HSAYS
    go_wp2_with fail
    refine HRS.mono ?_
    rintro e w2 ⟨⟨rfl,her,c',hc1,hc2,hs2⟩,hk2⟩
    have HST2:Hid (St w2 p s bs c'):=hs2
    have HK2:Hid (Kept (·=p) w w2):=hid (Kept.trans HK.out hk2 (fun _ _ h=>h) (fun _ _ h=>h))
    have hed:((er:Int) != 0)=true:=by simp;omega
    have HER:Hid (er≠0):=her
    have hcc:c≤c':=by omega
    have HP2:Hid (∀k,Fp p s k→k<w2.heap.size):=hid (fun k h=>by have:=HP.out k h;have:=HK2.out.size;omega)
    clear hs2 hk2 HRS her
    go_wp2_with fail
    go_ret2
    refine⟨?_,HK2.out.alloc _⟩
    rw[HE.out]
    exact⟨rfl,HER.out,c',hcc,hc2,HST2.out.kept ((Kept.refl (fun _=>False) w2).alloc _) (fun _ _ f=>f)⟩
   | ok r=>
    obtain⟨⟨sy,x⟩,c'⟩:=r
    rw[hsf]at HRS
    have HBS:Hid (bodyF ns (ofBytes bs) N N [] c=match withM l ((sy:Int),(x:Int)) N with | none=>.error 41 | some m=>bodyF ns (ofBytes bs) N f m c'):=hid (by rw[HBF.out,bodyF_step hlt hsf];all_goals rfl)
    have hcc:ci≤c':=stepF_ge hsf
    have HMS2:=fun W=>HMS W (sy:Int) (x:Int)
    have HSA2:=fun W=>HSAYS W (sy:Int) (x:Int)
    rw[←hL]at HV hq hf hl1 hlt HMS2 HSA2 ⊢
    clear hsf hL HMS HSAYS
    go_wp2_with fail
    refine HRS.mono ?_
    rintro e w2 ⟨⟨rfl,hc2,hs2⟩,hk2⟩
    have HST2:Hid (St w2 p s bs c'):=hs2
    have HK2:Hid (Kept (·=p) w w2):=hid (Kept.trans HK.out hk2 (fun _ _ h=>h) (fun _ _ h=>h))
    have HV2:Hid (NRow w.heap.size w2 (.slice a8 L cap8) l):=hid (HV.out.kept hk2 (fun k e h=>by have h1:=HV.out.ge e;have h2:=HP.out p (.inl rfl);omega))
    have hsz2:=HK2.out.size
    clear hs2 hk2 HRS HST HK HV HDW
    by_cases hmay:mayB ((sy:Int),(x:Int)) L N
    ·have HM:Hid (withM l ((sy:Int),(x:Int)) N=some (l++List.replicate (leastM (sy:Int)+(x:Int).toNat) (sayV (sy:Int) l))):=hid (withM_may (by rw[←HL.out];exact hmay))
     have HMAY:Hid (mayB ((sy:Int),(x:Int)) L N):=hmay
     clear hmay
     obtain⟨m,hm⟩:∃m,m=l++List.replicate (leastM (sy:Int)+(x:Int).toNat) (sayV (sy:Int) l):=⟨_,rfl⟩
     rw[←hm]at HM HSA2
     have hgr:=withM_grows HM.out HLL.out.2
     have HBM:Hid (bodyF ns (ofBytes bs) N N [] c=bodyF ns (ofBytes bs) N f m c'):=hid (by rw[HBS.out,HM.out])
     have HMM:Hid (m.length≤N∧∀x∈m,x≤15):=hid hgr.2
     have hLm:L<m.length:=by rw[HL.out];exact hgr.1
     clear hm hgr
     go_wp2_with fail
     refine(HMS2 _).mono ?_
     rintro e w3 ⟨he,hk3⟩
     have he2:=he.yes HMAY.out
     subst he2
     have c3:w3.cell? ⟨w2.heap.size,0,none⟩=some (.int .i64 (sy:Nat)):=hk3.cell (by simp) (fun f=>f)
     have c4:w3.cell? ⟨w2.heap.size,1,none⟩=some (.int .i64 (x:Nat)):=hk3.cell (by simp) (fun f=>f)
     have HK3:Hid (Same w2 w3):=hid (Same.trans ((Kept.refl _ w2).alloc _) hk3)
     have hsz3:w.heap.size≤w3.heap.size:=by have h2:=HK3.out.size;omega
     have HSY:=HSA2 w3 (HV2.out.same HK3.out) hsz3 HMAY.out
     clear he hk3 HMS2 HSA2
     go_wp2_with fail
     refine HSY.mono ?_
     rintro e w4 ⟨v4,rfl,hr4,hk4⟩
     have HV4:Hid (NRow w.heap.size w4 v4 m):=hr4
     have HST4:Hid (St w4 p s bs c'):=hid ((HST2.out.kept HK3.out (fun _ _ f=>f)).kept hk4 (fun k h e=>by have:=HP.out k h;unfold Over at e;omega))
     have HK4:Hid (Kept (·=p) w w4):=hid (Kept.trans (Kept.trans HK2.out HK3.out (fun _ _ h=>h) (fun _ _ f=>f.elim)) hk4 (fun _ _ h=>h) (fun k hk e=>by unfold Over at e;omega))
     clear hr4 hk4 HSY c3 c4
     go_wp2_with fail
     go_roundg (gk-1)
     case measure=>omega
     case rel=>exact⟨m,f,c',by omega,by omega,by omega,hc2,HBM,HMM,HV4,HST4,HK4⟩
    ·have HM:Hid (withM l ((sy:Int),(x:Int)) N=none):=hid (withM_no (by rw[←HL.out];exact hmay))
     have HMAY:Hid (¬mayB ((sy:Int),(x:Int)) L N):=hmay
     have HE:Hid (bodyF ns (ofBytes bs) N N [] c=.error 41):=hid (by rw[HBS.out,HM.out])
     have hccc:c≤c':=by omega
     clear hmay
     go_wp2_with fail
     refine(HMS2 _).mono ?_
     rintro e w3 ⟨he,hk3⟩
     have he2:=he.no HMAY.out
     subst he2
     have HK3:Hid (Same w2 w3):=hid (Same.trans ((Kept.refl _ w2).alloc _) hk3)
     clear he hk3 HMS2 HSA2
     go_wp2_with fail
     go_ret2
     refine⟨?_,Kept.trans HK2.out HK3.out (fun _ _ h=>h) (fun _ _ f=>f.elim)⟩
     rw[HE.out]
     exact⟨rfl,by decide,c',hccc,hc2,HST2.out.kept HK3.out (fun _ _ f=>f)⟩
  ·have HE:Hid (bodyF ns (ofBytes bs) N N [] c=.ok (l,ci)):=hid (by rw[HBF.out,bodyF_end (by omega)])
   obtain⟨L,hL⟩:∃L,L=l.length:=⟨_,rfl⟩
   rw[←hL]at HV hlt ⊢
   clear hL HMS HSAYS HRS hq hf
   go_wp2_with fail
   go_ret2
   refine⟨?_,HK.out⟩
   rw[HE.out]
   exact⟨⟨_,rfl,HV.out⟩,hci8,HST.out⟩

end Go.Proofs.YtggcbnhckcenmaaGreatDoor

namespace Go.Proofs.YtggcbnhckcenmaaGreatDoor
open Go.RowKit

def Tab(w:World):Prop:=∀i,i<19→w.cell? ⟨0,i,none⟩=some (.int .i64 ((ord.getD i 0:Nat):Int))

theorem Tab.kept{F:Nat→Prop}{w w':World}(h:Tab w)(hk:Kept F w w')(hF:¬F 0):Tab w':=fun i hi=>hk.cell (h i hi) hF

theorem numsAt_three(ls:List Nat)(c n i:Nat)(hi:i<(numsAt ls c (List.replicate n 3)).length):(numsAt ls c (List.replicate n 3))[i]=numAt ls (c+3*i) 3:=by
 induction n generalizing c i with
 | zero=>simp[numsAt]at hi
 | succ n ih=>
  cases i with
  | zero=>simp[List.replicate_succ,numsAt]
  | succ i=>
   simp only[List.replicate_succ,numsAt,List.getElem_cons_succ]
   rw[ih (c+3) i (by simpa[List.replicate_succ,numsAt]using hi)]
   congr 1
   omega

theorem nrow_of_l{B:Nat}{w:World}{v:Value}{xs:List Nat}(h:RowC B 3 1 natL w v xs):NRow B w v xs:=by
 unfold RowC at h
 rw[natL_flat]at h
 exact h

theorem sum_three(n:Nat):(List.replicate n 3).sum=3*n:=by
 induction n with
 | zero=>rfl
 | succ n ih=>rw[List.replicate_succ,List.sum_cons,ih];omega

theorem chk_good(l:List Nat)(hl:l.length=19)(h7:∀x∈l,x≤7)(h:chkN l=0):Good (l.map (fun(n:Nat)=>(n:Int))) l:=by
 have hg:=good_of (zs:=l.map (fun(n:Nat)=>(n:Int))) (by rw[chk_codes l hl h7];exact h)
 have e:(l.map (fun(n:Nat)=>(n:Int))).map Int.toNat=l:=by
  rw[List.map_map]
  conv=>rhs;rw[←List.map_id l]
  exact List.map_congr_left (fun x _=>by simp)
 rw[e]at hg
 exact hg

def RCodesA(w w':World)(p:Nat)(s:Value)(bs:List Nat)(c come:Nat)(e:Ending):Prop:=
 (8*bs.length<c+3*come∧e=.returned (.tuple #[.pointer none,.int .i64 10])∧∃c',c≤c'∧c'≤8*bs.length∧St w' p s bs c') ∨
 (c+3*come≤8*bs.length∧St w' p s bs (c+3*come) ∧
  ((chkN (codesF (ofBytes bs) c come)≠0∧e=.returned (.tuple #[.pointer none,.int .i64 (chkN (codesF (ofBytes bs) c come):Nat)])) ∨
   (chkN (codesF (ofBytes bs) c come)=0∧∃d vc vs,e=.returned (.tuple #[.pointer (some ⟨d,0,none⟩),.int .i64 0])∧Dec w' d vc vs (codesF (ofBytes bs) c come)∧∀k,DF d vc vs k→w.heap.size≤k)))

set_option maxRecDepth 100000 in
set_option maxHeartbeats 2000000 in
theorem lcodes_any(w:World)(p c:Nat)(s:Value)(bs:List Nat)(come:Nat)(hs:St w p s bs c)(hc:c≤8*bs.length)(hlen:bs.length≤100000000)(h19:come≤19)(hT:Tab w)(hpg:p≠0):
  Calls Tryz.prog 177 #[.pointer (some ⟨p,0,none⟩),.int .i64 (come:Nat)] w fun e w'=>RCodesA w w' p s bs c come e∧Kept (·=p) w w':=by
 obtain⟨W,hW⟩:∃W,W=w.alloc (.cells #[.int .i64 3] 3):=⟨_,rfl⟩
 have hk0:Same w W:=by rw[hW];exact(Kept.refl _ w).alloc _
 have HK0:Hid (Same w W):=hk0
 have HRP:=repeatN_any W ⟨w.heap.size,0,none⟩ 3 come (by rw[hW];exact cellsAt_new w 3 (natV 3)) (by omega)
 have HST:Hid (St W p s bs c):=hid (hs.kept hk0 (fun _ _ f=>f))
 have HT:Hid (Tab W):=hid (hT.kept hk0 (fun f=>f))
 have HP:Hid (∀k,Fp p s k→k<w.heap.size):=hid (fun k h=>hs.fp_lt h)
 have hpw:p<w.heap.size:=hs.lt
 have hsW:=hk0.size
 clear hs hT hk0
 go_enter Tryz.func177,Tryz.ntmps177
 go_wp2_with fail
 rw[←hW]
 clear hW
 refine HRP.mono ?_
 rintro e w1 ⟨g,rfl,hr1,hk1⟩
 have hr1n:=nrow_of_l hr1
 have hTK:=ltake_any w1 p c s bs (.slice (some ⟨g,0,none⟩) come come) _ (List.replicate come 3) (HST.out.kept hk1 (fun _ _ f=>f)) hc hlen (SrcE.ofRow hr1n) (fun k e=>by have:=hr1n.ge e;omega) (fun n hn=>by have:=List.eq_of_mem_replicate hn;omega) (by simp;omega)
 have HK1:Hid (Same w w1):=hid (Same.trans HK0.out hk1)
 have HT1:Hid (Tab w1):=hid (HT.out.kept hk1 (fun f=>f))
 clear hr1 hk1 HRP hr1n HST HT
 go_wp2_with fail
 refine hTK.mono ?_
 rintro e w2 ⟨hta,hk2⟩
 have HK2:Hid (Kept (·=p) w w2):=hid (Kept.trans (HK1.out.mono (fun _ _ f=>f.elim)) hk2 (fun _ _ h=>h) (fun _ _ h=>h))
 have HT2:Hid (Tab w2):=hid (HT1.out.kept hk2 (fun e=>hpg e.symm))
 have hsz1:=HK1.out.size
 have hsz2:=HK2.out.size
 have hsz12:=hk2.size
 clear hk2 hTK
 rcases hta with⟨hfit,⟨v2,rfl,hr2⟩,hs2⟩ | ⟨hbig,rfl,c',hc1,hc2,hs2⟩
 ·have HF:Hid (c+3*come≤8*bs.length):=by rw[sum_three]at hfit;exact hfit
  have HS2:Hid (St w2 p s bs (c+3*come)):=by rw[sum_three]at hs2;exact hs2
  have HR2:Hid (NRow w1.heap.size w2 v2 (numsAt (ofBytes bs) c (List.replicate come 3))):=hr2
  have hnl:=numsAt_length (ofBytes bs) c (List.replicate come 3)
  rw[List.length_replicate]at hnl
  obtain⟨a2,cap2,hv2,_⟩:=hr2.shape
  subst hv2
  rw[hnl]at HR2 ⊢
  clear hfit hs2 hr2
  have HNL:Hid ((numsAt (ofBytes bs) c (List.replicate come 3)).length=come):=hnl
  clear hnl
  go_wp2_with (at_make;refine wpList_make_e _ natV 0 w2.heap.size 45 3 8 Tryz.underlying45 Tryz.infoN rfl (by decide) rfl _ _ rfl _ _ _ _ 19 rfl rfl rfl rfl (by decide) (Nat.le_refl _) ?_;intro w3 hr3 hg3 hs3;have HR3:Hid (NRow w2.heap.size w3 (.slice (some ⟨w2.heap.size,0,none⟩) 19 19) (codesF (ofBytes bs) c 0)):=hid hr3;have HK3:Hid (Same w2 w3):=hid ((Kept.refl _ w2).grown hg3 (fun j e=>by cases e));clear hr3 hg3)
  go_loopg [9,10,25] come (fun q _ _ zi wr=>∃(i:Nat),come-i≤q∧i≤come∧zi=.int .i64 (i:Nat)∧Hid (NRow w2.heap.size wr (.slice (some ⟨w2.heap.size,0,none⟩) 19 19) (codesF (ofBytes bs) c i))∧Hid (Same w2 wr))
  case atStart=>exact⟨0,by omega,by omega,rfl,HR3,HK3⟩
  case round=>
   clear HR3 HK3 hs3
   obtain⟨i,hq,hi,rfl,HV,HK⟩:=hrel
   by_cases hlt:i<come
   ·obtain⟨b,o,cap',e,_,_,cx⟩:=(SrcE.ofRow (HR2.out.same HK.out)).get i (by rw[HNL.out];exact hlt)
    rw[HNL.out]at e
    simp only[Value.slice.injEq]at e
    obtain⟨rfl,hxe,rfl⟩:=e
    clear hxe
    rw[numsAt_three]at cx
    obtain⟨x,hx⟩:∃x,x=numAt (ofBytes bs) (c+3*i) 3:=⟨_,rfl⟩
    rw[←hx]at cx
    unfold natV at cx
    have ct:=(HT2.out.kept HK.out (fun f=>f)) i (by omega)
    have ho18:=ord_le i (by omega)
    obtain⟨oi,hoi⟩:∃x,x=ord.getD i 0:=⟨_,rfl⟩
    rw[←hoi]at ct ho18
    have cl:wr.cell? ⟨w2.heap.size,oi,none⟩=some (natV (codesF (ofBytes bs) c i)[oi]!):=by
     have h:=HV.out.cell oi (by rw[codesF_length];omega)
     rw[h]
     congr 2
     rw[getElem!_pos]
    have fl:wr.frozen? ⟨w2.heap.size,oi,none⟩=false:=HV.out.frozen oi
    have HV2:Hid (NRow w2.heap.size (wr.setCell ⟨w2.heap.size,oi,none⟩ (.int .i64 (x:Nat))) (.slice (some ⟨w2.heap.size,0,none⟩) 19 19) (codesF (ofBytes bs) c (i+1))):=hid (by
     have h:=HV.out.lay oi x
     rw[hx,hoi]at h ⊢
     exact h)
    have HKN:Hid (Same w2 (wr.setCell ⟨w2.heap.size,oi,none⟩ (.int .i64 (x:Nat)))):=hid (HK.out.setCell _ _ (.inr (Nat.le_refl _)))
    generalize (codesF (ofBytes bs) c i)[oi]! = old at cl
    clear hx hoi
    go_wp2_with fail
    go_roundg (gk-1)
    case measure=>omega
    case rel=>exact⟨i+1,by omega,by omega,by go_num,HV2,HKN⟩
   ·have hic:i=come:=by omega
    subst hic
    clear hq hlt
    have hcl:=codesF_length (ofBytes bs) c i
    have hc7:=codesF_le (ofBytes bs) (ofBytes_lt bs) c i
    have hsrc:SrcE intV wr _ (.slice (some ⟨w2.heap.size,0,none⟩) 19 19) ((codesF (ofBytes bs) c i).map (fun(n:Nat)=>(n:Int))):=(SrcE.ofRow HV.out).recode (by rw[List.map_map];rfl)
    have HSTF:Hid (St wr p s bs (c+3*i)):=hid (HS2.out.kept HK.out (fun _ _ f=>f))
    by_cases hch:chkN (codesF (ofBytes bs) c i)=0
    ·have HN:=new_good wr _ _ _ _ hsrc (chk_good _ hcl hc7 hch) (by rw[chk_codes _ hcl hc7];exact hch)
     have HCH:Hid (chkN (codesF (ofBytes bs) c i)=0):=hch
     have hszr:=HK.out.size
     clear hch hsrc hcl hc7
     go_wp2_with fail
     refine HN.mono ?_
     rintro e w5 ⟨⟨d,vc,vs,rfl,hdec,hdf⟩,hk5⟩
     have HDEC:Hid (Dec w5 d vc vs (codesF (ofBytes bs) c i)):=hdec
     have HDF:Hid (∀k,DF d vc vs k→w.heap.size≤k):=hid (fun k h=>by have:=hdf k h;omega)
     have HK5:Hid (Same wr w5):=hk5
     clear hdec hdf hk5 HN
     go_wp2_with fail
     go_ret2
     exact⟨.inr ⟨HF.out,HSTF.out.kept HK5.out (fun _ _ f=>f),.inr ⟨HCH.out,d,vc,vs,rfl,HDEC.out,HDF.out⟩⟩,Kept.trans (Kept.trans HK2.out HK.out (fun _ _ h=>h) (fun _ _ f=>f.elim)) HK5.out (fun _ _ h=>h) (fun _ _ f=>f.elim)⟩
    ·have HN:=new_bad wr _ _ _ hsrc (by simp[hcl]) (by rw[chk_codes _ hcl hc7];exact hch)
     rw[chk_codes _ hcl hc7]at HN
     have HCH:Hid (chkN (codesF (ofBytes bs) c i)≠0):=hch
     clear hch hsrc hcl hc7
     go_wp2_with fail
     refine HN.mono ?_
     rintro e w5 ⟨rfl,hk5⟩
     have HK5:Hid (Same wr w5):=hk5
     clear hk5 HN
     go_wp2_with fail
     go_ret2
     exact⟨.inr ⟨HF.out,HSTF.out.kept HK5.out (fun _ _ f=>f),.inl ⟨HCH.out,rfl⟩⟩,Kept.trans (Kept.trans HK2.out HK.out (fun _ _ h=>h) (fun _ _ f=>f.elim)) HK5.out (fun _ _ h=>h) (fun _ _ f=>f.elim)⟩
 ·have HB:Hid (8*bs.length<c+3*come):=by rw[sum_three]at hbig;exact hbig
  have HS2:Hid (St w2 p s bs c'):=hs2
  clear hbig hs2
  go_wp2_with fail
  go_ret2
  exact⟨.inl ⟨HB.out,rfl,c',hc1,hc2,HS2.out⟩,HK2.out⟩

end Go.Proofs.YtggcbnhckcenmaaGreatDoor

namespace Go.Proofs.YtggcbnhckcenmaaGreatDoor
open Go.RowKit

def NumA(w':World)(p:Nat)(s:Value)(bs:List Nat)(e:Ending):Except Nat (Nat×Nat)→Prop
 | .error er=>e=.returned (.tuple #[.int .i64 0,.int .i64 (er:Nat)])∧er≠0∧∃c',c'≤8*bs.length∧St w' p s bs c'
 | .ok (x,c')=>e=.returned (.tuple #[.int .i64 (x:Nat),.int .i64 0])∧c'≤8*bs.length∧St w' p s bs c'

set_option maxHeartbeats 1000000 in
theorem ptake_any(w:World)(p c n:Nat)(s:Value)(bs:List Nat)(hs:St w p s bs c)(hc:c≤8*bs.length)(hlen:bs.length≤100000000)(hn:n≤32):
  Calls Tryz.prog 113 #[.pointer (some ⟨p,0,none⟩),.int .i64 (n:Nat)] w fun e w'=>NumA w' p s bs e (tkP (ofBytes bs) c n)∧Kept (·=p) w w':=by
 have HS:Hid (St w p s bs c):=hs
 by_cases hf:c+n≤8*bs.length
 ·have HT:=take_good p c n s bs w hs (by omega) hn hf
  rw[num_bits bs hs.byte c n hf]at HT
  have HE:Hid (tkP (ofBytes bs) c n=.ok (numAt (ofBytes bs) c n,c+n)):=hid (tkP_is (by rw[ofBytes_length];exact hf))
  obtain⟨x,hx⟩:∃x,x=numAt (ofBytes bs) c n:=⟨_,rfl⟩
  have hxl:x<2 ^ 32:=by
   rw[hx]
   exact Nat.lt_of_lt_of_le (numAt_lt _ (ofBytes_lt bs) _ _) (Nat.pow_le_pow_right (by decide) hn)
  rw[←hx]at HT HE
  have hxw:wrap64 (x:Int)=(x:Int):=by unfold wrap64;omega
  have HF:Hid (c+n≤8*bs.length):=hf
  clear hx hf hs hc
  go_enter Tryz.func113,Tryz.ntmps113
  go_wp2_with fail
  refine HT.mono ?_
  rintro e w2 ⟨rfl,hs2,hk2⟩
  have HS2:Hid (St w2 p s bs (c+n)):=hs2
  have HK2:Hid (Kept (·=p) w w2):=hk2
  clear hs2 hk2 HT
  go_wp2_with fail
  go_ret2
  rw[HE.out]
  exact⟨⟨rfl,HF.out,HS2.out⟩,HK2.out⟩
 ·have HT:=take_end p c n s bs w hs hc (by omega) hn (by omega)
  have HE:Hid (tkP (ofBytes bs) c n=.error 55):=hid (tkP_end (by rw[ofBytes_length];omega))
  have HC:Hid (c≤8*bs.length):=hc
  clear hf hs hc
  go_enter Tryz.func113,Tryz.ntmps113
  go_wp2_with fail
  refine HT.mono ?_
  rintro e w2 ⟨rfl,m,hw2⟩
  subst hw2
  clear HT
  go_wp2_with fail
  go_ret2
  rw[HE.out]
  exact⟨⟨rfl,by decide,c,HC.out,HS.out.drewN m⟩,(Kept.refl _ w).drewN m⟩

theorem NumA.err{w':World}{p:Nat}{s:Value}{bs:List Nat}{e:Ending}{er:Nat}(h:NumA w' p s bs e (.error er)):e=.returned (.tuple #[.int .i64 0,.int .i64 (er:Nat)])∧er≠0∧∃c',c'≤8*bs.length∧St w' p s bs c':=h
theorem NumA.ok{w':World}{p:Nat}{s:Value}{bs:List Nat}{e:Ending}{x c':Nat}(h:NumA w' p s bs e (.ok (x,c'))):e=.returned (.tuple #[.int .i64 (x:Nat),.int .i64 0])∧c'≤8*bs.length∧St w' p s bs c':=h

set_option maxHeartbeats 1000000 in
theorem psym_nil(w:World)(rv':Value)(last:Nat):
  Calls Tryz.prog 117 #[rv',.pointer none,.int .i64 (last:Nat)] w fun e w'=>e=.returned (.tuple #[.int .i64 0,.int .i64 53])∧w'=w:=by
 have HN:=next_none w rv'
 go_enter Tryz.func117,Tryz.ntmps117
 go_wp2_with fail
 refine HN.mono ?_
 rintro e w2 ⟨rfl,hw2⟩
 subst hw2
 clear HN
 go_wp2_with fail
 go_ret2
 exact⟨rfl,rfl⟩

theorem Lok.good{l:List Nat}(h:Lok l):Good (l.map (fun(n:Nat)=>(n:Int))) l:=
 ⟨by rw[List.map_map];rfl,by simp,h.pos,h.max,h.le,h.ok,rfl⟩

set_option maxHeartbeats 2000000 in
theorem psym_any(w:World)(d:Nat)(vc vs:Value)(ns:List Nat)(p c last:Nat)(s:Value)(bs:List Nat)(hg:Lok ns)(hd:Dec w d vc vs ns)(hs:St w p s bs c)(hc:c≤8*bs.length)(hlen:bs.length≤100000000)(hdis:∀k,DF d vc vs k→¬Fp p s k):
  Calls Tryz.prog 117 #[.pointer (some ⟨p,0,none⟩),.pointer (some ⟨d,0,none⟩),.int .i64 (last:Nat)] w fun e w'=>NumA w' p s bs e (syP ns (ofBytes bs) c last)∧Kept (·=p) w w':=by
 have HN:=lnext_any w d vc vs _ ns p c s bs hg.good hd hs hc hlen hdis
 obtain⟨y,k,g,hn⟩:∃y k g,nextF ns ((ofBytes bs).drop c)=(y,k,g):=⟨_,_,_,rfl⟩
 rw[hn]at HN
 simp only at HN
 have h3:=nextF_ends ns ((ofBytes bs).drop c)
 rw[hn]at h3
 simp only at h3
 clear hd hs hdis
 rcases h3 with rfl | rfl | rfl
 ·by_cases hl:last<y
  ·have HE:Hid (syP ns (ofBytes bs) c last=.error 53):=hid (syP_far hn hl)
   have hld:decide (last<y)=true:=by simp;omega
   clear hn hl
   go_enter Tryz.func117,Tryz.ntmps117
   go_wp2_with fail
   refine HN.mono ?_
   rintro e w2 ⟨rfl,hst,hc2,hk⟩
   have HST:Hid (St w2 p s bs (c+k)):=hst
   have HC2:Hid (c+k≤8*bs.length):=hc2
   have HK:Hid (Kept (·=p) w w2):=hk
   clear HN hst hc2 hk
   go_wp2_with fail
   go_ret2
   rw[HE.out]
   exact⟨⟨rfl,by decide,_,HC2.out,HST.out⟩,HK.out⟩
  ·have HE:Hid (syP ns (ofBytes bs) c last=.ok (y,c+k)):=hid (syP_is hn (by omega))
   have hld:decide (last<y)=false:=by simp;omega
   clear hn hl
   go_enter Tryz.func117,Tryz.ntmps117
   go_wp2_with fail
   refine HN.mono ?_
   rintro e w2 ⟨rfl,hst,hc2,hk⟩
   have HST:Hid (St w2 p s bs (c+k)):=hst
   have HC2:Hid (c+k≤8*bs.length):=hc2
   have HK:Hid (Kept (·=p) w w2):=hk
   clear HN hst hc2 hk
   go_wp2_with fail
   go_ret2
   rw[HE.out]
   exact⟨⟨rfl,HC2.out,HST.out⟩,HK.out⟩
 ·have HE:Hid (syP ns (ofBytes bs) c last=.error 55):=hid (syP_short (by rw[hn]))
  clear hn
  go_enter Tryz.func117,Tryz.ntmps117
  go_wp2_with fail
  refine HN.mono ?_
  rintro e w2 ⟨rfl,hst,hc2,hk⟩
  have HST:Hid (St w2 p s bs (c+k)):=hst
  have HC2:Hid (c+k≤8*bs.length):=hc2
  have HK:Hid (Kept (·=p) w w2):=hk
  clear HN hst hc2 hk
  go_wp2_with fail
  go_ret2
  rw[HE.out]
  exact⟨⟨rfl,by decide,_,HC2.out,HST.out⟩,HK.out⟩
 ·have HE:Hid (syP ns (ofBytes bs) c last=.error 53):=hid (syP_none (by rw[hn]))
  clear hn
  go_enter Tryz.func117,Tryz.ntmps117
  go_wp2_with fail
  refine HN.mono ?_
  rintro e w2 ⟨rfl,hst,hc2,hk⟩
  have HST:Hid (St w2 p s bs (c+k)):=hst
  have HC2:Hid (c+k≤8*bs.length):=hc2
  have HK:Hid (Kept (·=p) w w2):=hk
  clear HN hst hc2 hk
  go_wp2_with fail
  go_ret2
  rw[HE.out]
  exact⟨⟨rfl,by decide,_,HC2.out,HST.out⟩,HK.out⟩

theorem xor_ones:∀n x:Nat,x<2 ^ n→x ^^^ (2 ^ n-1)=2 ^ n-1-x:=by
 intro n x hx
 refine Nat.eq_of_testBit_eq (fun i=>?_)
 rw[Nat.testBit_xor,Nat.testBit_two_pow_sub_one,Nat.sub_sub,Nat.add_comm 1 x,Nat.testBit_two_pow_sub_succ hx]
 by_cases h:i<n
 ·simp[h]
 ·have:x.testBit i=false:=Nat.testBit_lt_two_pow (Nat.lt_of_lt_of_le hx (Nat.pow_le_pow_right (by decide) (by omega)))
  simp[h,this]

theorem xor_all(x:Nat)(hx:x<65536):bits .xor .i64 (x:Int) 65535=((65535-x:Nat):Int):=by
 have h1:(BitVec.ofInt 64 (x:Int)).toNat=x:=by
  rw[BitVec.ofInt_natCast,BitVec.toNat_ofNat];exact Nat.mod_eq_of_lt (by omega)
 have h2:(BitVec.ofInt 64 (65535:Int)).toNat=65535:=by decide
 show IntKind.i64.wrap ((BitVec.ofInt 64 (x:Int) ^^^ BitVec.ofInt 64 (65535:Int)).toNat:Int)=_
 have h3:=xor_ones 16 x hx
 have h4:(2:Nat) ^ 16-1=65535:=by decide
 rw[h4]at h3
 rw[BitVec.toNat_xor,h1,h2,h3,IntKind.wrap_i64]
 omega

theorem ceil_le(bs:List Nat)(c:Nat)(hc:c≤8*bs.length):(c+7) / 8*8≤8*bs.length:=by omega

set_option maxHeartbeats 2000000 in
theorem pcount_any(w:World)(p c:Nat)(s:Value)(bs:List Nat)(hs:St w p s bs c)(hc:c≤8*bs.length)(hlen:bs.length≤100000000):
  Calls Tryz.prog 114 #[.pointer (some ⟨p,0,none⟩)] w fun e w'=>NumA w' p s bs e (cntP (ofBytes bs) c)∧Kept (·=p) w w':=by
 have HA:=ralign_any p c s bs w hs (by omega)
 have hca:=ceil_le bs c hc
 obtain⟨a,ha⟩:∃a,a=(c+7) / 8*8:=⟨_,rfl⟩
 have HEQ:Hid (cntP (ofBytes bs) c=bindP (tkP (ofBytes bs) a 16) (fun n c1=>bindP (tkP (ofBytes bs) c1 16) (fun t c2=>if n+t=65535 then .ok (n,c2)else .error 51))):=hid (by rw[ha];rfl)
 rw[←ha]at HA hca
 have HLEN:Hid (bs.length≤100000000):=hlen
 have HCA:Hid (a≤8*bs.length):=hca
 clear hs ha hc hlen hca
 go_enter Tryz.func114,Tryz.ntmps114
 go_wp2_with fail
 refine HA.mono ?_
 rintro e w1 ⟨rfl,hs1,hk1⟩
 have HK1:Hid (Kept (·=p) w w1):=hk1
 have HT:=ptake_any w1 p a 16 s bs hs1 HCA.out HLEN.out (by decide)
 clear HA hk1 hs1
 cases ht:tkP (ofBytes bs) a 16 with
 | error er=>
  rw[ht]at HT
  have HE:Hid (cntP (ofBytes bs) c=.error er):=hid (by rw[HEQ.out,bindP_no ht])
  clear ht HEQ
  go_wp2_with fail
  refine HT.mono ?_
  rintro e w2 ⟨hn2,hk2⟩
  obtain⟨rfl,her,hst⟩:=hn2.err
  have hed:((er:Int) != 0)=true:=by simp;omega
  have HST:Hid (∃c',c'≤8*bs.length∧St w2 p s bs c'):=hst
  have HK2:Hid (Kept (·=p) w w2):=hid (HK1.out.trans hk2 (fun _ _ h=>h) (fun _ _ h=>h))
  have HER2:Hid (er≠0):=her
  clear hn2 hst hk2 HT her
  go_wp2_with fail
  go_ret2
  rw[HE.out]
  exact⟨⟨rfl,HER2.out,HST.out⟩,HK2.out⟩
 | ok x=>
  obtain⟨x,c2⟩:=x
  rw[ht]at HT
  have HE1:Hid (cntP (ofBytes bs) c=bindP (tkP (ofBytes bs) c2 16) (fun t c2=>if x+t=65535 then .ok (x,c2)else .error 51)):=hid (by rw[HEQ.out,bindP_is ht])
  have hx16:x<65536:=by
   rw[(tkP_ok ht).1]
   exact numAt_lt _ (ofBytes_lt bs) _ _
  clear ht HEQ
  go_wp2_with fail
  refine HT.mono ?_
  rintro e w2 ⟨hn2,hk2⟩
  obtain⟨rfl,hc2,hst⟩:=hn2.ok
  have HT2:=ptake_any w2 p c2 16 s bs hst hc2 HLEN.out (by decide)
  have HK2:Hid (Kept (·=p) w w2):=hid (HK1.out.trans hk2 (fun _ _ h=>h) (fun _ _ h=>h))
  clear hn2 hst hk2 HT hc2
  cases ht:tkP (ofBytes bs) c2 16 with
  | error er=>
   rw[ht]at HT2
   have HE:Hid (cntP (ofBytes bs) c=.error er):=hid (by rw[HE1.out,bindP_no ht])
   clear ht
   go_wp2_with fail
   refine HT2.mono ?_
   rintro e w3 ⟨hn2,hk2⟩
   obtain⟨rfl,her,hst⟩:=hn2.err
   have hed:((er:Int) != 0)=true:=by simp;omega
   have HST:Hid (∃c',c'≤8*bs.length∧St w3 p s bs c'):=hst
   have HK3:Hid (Kept (·=p) w w3):=hid (HK2.out.trans hk2 (fun _ _ h=>h) (fun _ _ h=>h))
   have HER2:Hid (er≠0):=her
   clear hn2 hst hk2 HT2 her
   go_wp2_with fail
   go_ret2
   rw[HE.out]
   exact⟨⟨rfl,HER2.out,HST.out⟩,HK3.out⟩
  | ok t=>
   obtain⟨t,c3⟩:=t
   rw[ht]at HT2
   have HE:Hid (cntP (ofBytes bs) c=if x+t=65535 then .ok (x,c3)else .error 51):=hid (by rw[HE1.out,bindP_is ht])
   have ht16:t<65536:=by
    rw[(tkP_ok ht).1]
    exact numAt_lt _ (ofBytes_lt bs) _ _
   clear ht HE1
   go_wp2_with fail
   refine HT2.mono ?_
   rintro e w3 ⟨hn2,hk2⟩
   obtain⟨rfl,hc3,hst⟩:=hn2.ok
   have HST:Hid (St w3 p s bs c3):=hst
   have HC3:Hid (c3≤8*bs.length):=hc3
   have HK3:Hid (Kept (·=p) w w3):=hid (HK2.out.trans hk2 (fun _ _ h=>h) (fun _ _ h=>h))
   clear hn2 hst hk2 HT2 hc3
   have hxr:bits .xor .i64 (x:Int) 65535=((65535-x:Nat):Int):=xor_all x hx16
   obtain⟨y,hy⟩:∃y,y=65535-x:=⟨_,rfl⟩
   rw[←hy]at hxr
   by_cases heq:t=y
   ·have hte:((t:Int) != (y:Int))=false:=by simp[heq]
    have HE2:Hid (cntP (ofBytes bs) c=.ok (x,c3)):=hid (by rw[HE.out,if_pos (by omega)])
    clear heq HE hy
    go_wp2_with fail
    go_ret2
    rw[HE2.out]
    exact⟨⟨rfl,HC3.out,HST.out⟩,HK3.out⟩
   ·have hte:((t:Int) != (y:Int))=true:=by simp;omega
    have HE2:Hid (cntP (ofBytes bs) c=.error 51):=hid (by rw[HE.out,if_neg (by omega)])
    clear heq HE hy
    go_wp2_with fail
    go_ret2
    rw[HE2.out]
    exact⟨⟨rfl,by decide,_,HC3.out,HST.out⟩,HK3.out⟩

end Go.Proofs.YtggcbnhckcenmaaGreatDoor

namespace Go.Proofs.YtggcbnhckcenmaaGreatDoor
open Go.RowKit

theorem num_parts(hd wd x:Nat)(h8:hd≤8)(hw:wd≤13)(hx:x<2 ^ wd):∃pw,(hd:Int)*2 ^ wd=((pw:Nat):Int)∧hd*2 ^ wd=pw∧pw≤65536∧x≤8192:=by
 have hp:2 ^ wd≤2 ^ 13:=Nat.pow_le_pow_right (by decide) hw
 have e13:(2:Nat) ^ 13=8192:=by decide
 rw[e13]at hp
 refine⟨hd*2 ^ wd,by simp,rfl,?_,by omega⟩
 exact Nat.le_trans (Nat.mul_le_mul h8 hp) (by decide)

theorem quo4(y:Nat)(hlt:¬y<4)(hy:y≤29):∃wd qd rm hd:Nat,wd=y / 4-1∧wd≤13∧qd≤15∧(y:Int) / 4=(qd:Int)∧(qd:Int)-1=(wd:Int)∧(y:Int) % 4=(rm:Int)∧(4:Int)+(rm:Int)=(hd:Int)∧hd=4+y % 4∧rm≤3∧hd≤8:=
 ⟨y / 4-1,y / 4,y % 4,4+y % 4,rfl,by omega,by omega,by omega,by omega,by omega,by omega,rfl,by omega,by omega⟩

set_option maxHeartbeats 400000 in
theorem pnum4_any(w:World)(p c y:Nat)(s:Value)(bs:List Nat)(hs:St w p s bs c)(hc:c≤8*bs.length)(hlen:bs.length≤100000000)(hy:y≤29):
  Calls Tryz.prog 146 #[.pointer (some ⟨p,0,none⟩),.int .i64 (y:Nat),.int .i64 4] w fun e w'=>NumA w' p s bs e (numP (ofBytes bs) c y 4)∧Kept (·=p) w w':=by
 have HS:Hid (St w p s bs c):=hs
 by_cases hlt:y<4
 ·have HE:Hid (numP (ofBytes bs) c y 4=.ok (y,c)):=hid (by unfold numP;rw[if_pos hlt])
  have HC:Hid (c≤8*bs.length):=hc
  have hld:decide ((y:Int)<4)=true:=by simp;omega
  clear hs hc hlt
  go_enter Tryz.func146,Tryz.ntmps146
  go_wp2_with fail
  go_ret2
  rw[HE.out]
  exact⟨⟨rfl,HC.out,HS.out⟩,Kept.refl _ _⟩
 ·have hld:decide ((y:Int)<4)=false:=by simp;omega
  obtain⟨wd,qd,rm,hd,hwd,hw13,hq14,hquo,hquo1,hrmI,hhdI,hhd,hrm4,hhd8⟩:=quo4 y hlt hy
  have HT:=ptake_any w p c wd s bs hs hc hlen (by omega)
  have HW:Hid (wd=y / 4-1):=hwd
  have HHD:Hid (hd=4+y % 4):=hhd
  clear hs hc hwd hhd
  cases ht:tkP (ofBytes bs) c wd with
  | error er=>
   rw[ht]at HT
   have HE:Hid (numP (ofBytes bs) c y 4=.error er):=hid (by unfold numP;rw[if_neg hlt,←HW.out,bindP_no ht])
   clear ht hlt hrmI hhdI
   go_enter Tryz.func146,Tryz.ntmps146
   go_wp2_with fail
   refine HT.mono ?_
   rintro e w2 ⟨hn2,hk2⟩
   obtain⟨rfl,her,hst⟩:=hn2.err
   have hed:((er:Int) != 0)=true:=by simp;omega
   have HST:Hid (∃c',c'≤8*bs.length∧St w2 p s bs c'):=hst
   have HK2:Hid (Kept (·=p) w w2):=hk2
   have HER2:Hid (er≠0):=her
   clear hn2 hst hk2 HT her
   go_wp2_with fail
   go_ret2
   rw[HE.out]
   exact⟨⟨rfl,HER2.out,HST.out⟩,HK2.out⟩
  | ok x=>
   obtain⟨x,c2⟩:=x
   rw[ht]at HT
   obtain⟨pw,hpI,hpe,hpl,hxl⟩:=num_parts hd wd x hhd8 hw13 (by rw[(tkP_ok ht).1];exact numAt_lt _ (ofBytes_lt bs) _ _)
   obtain⟨z,hz⟩:∃z,z=pw+x:=⟨_,rfl⟩
   have HE:Hid (numP (ofBytes bs) c y 4=.ok (z,c2)):=hid (by unfold numP;rw[if_neg hlt,←HW.out,bindP_is ht,hz,←hpe,←HHD.out])
   have HPI:Hid ((hd:Int)*2 ^ wd=(pw:Int)):=hpI
   clear ht hlt hpe hpI
   have hzI:(pw:Int)+(x:Int)=(z:Int):=by omega
   have hzl:z≤100000:=by omega
   have HSH:Hid (wrap64 ((hd:Int)*2 ^ wd)=(pw:Int)):=hid (by rw[HPI.out];unfold wrap64;omega)
   clear hz hpl hxl HPI
   have hsh:=HSH.out
   go_enter Tryz.func146,Tryz.ntmps146
   go_wp2_with fail
   refine HT.mono ?_
   rintro e w2 ⟨hn2,hk2⟩
   obtain⟨rfl,hc2,hst⟩:=hn2.ok
   have HST:Hid (St w2 p s bs c2):=hst
   have HC2:Hid (c2≤8*bs.length):=hc2
   have HK2:Hid (Kept (·=p) w w2):=hk2
   clear hn2 hst hk2 HT hc2
   go_wp2_with fail
   go_ret2
   rw[HE.out]
   exact⟨⟨rfl,HC2.out,HST.out⟩,HK2.out⟩

theorem quo2(y:Nat)(hlt:¬y<2)(hy:y≤29):∃wd qd rm hd:Nat,wd=y / 2-1∧wd≤13∧qd≤15∧(y:Int) / 2=(qd:Int)∧(qd:Int)-1=(wd:Int)∧(y:Int) % 2=(rm:Int)∧(2:Int)+(rm:Int)=(hd:Int)∧hd=2+y % 2∧rm≤3∧hd≤8:=
 ⟨y / 2-1,y / 2,y % 2,2+y % 2,rfl,by omega,by omega,by omega,by omega,by omega,by omega,rfl,by omega,by omega⟩

set_option maxHeartbeats 400000 in
theorem pnum2_any(w:World)(p c y:Nat)(s:Value)(bs:List Nat)(hs:St w p s bs c)(hc:c≤8*bs.length)(hlen:bs.length≤100000000)(hy:y≤29):
  Calls Tryz.prog 146 #[.pointer (some ⟨p,0,none⟩),.int .i64 (y:Nat),.int .i64 2] w fun e w'=>NumA w' p s bs e (numP (ofBytes bs) c y 2)∧Kept (·=p) w w':=by
 have HS:Hid (St w p s bs c):=hs
 by_cases hlt:y<2
 ·have HE:Hid (numP (ofBytes bs) c y 2=.ok (y,c)):=hid (by unfold numP;rw[if_pos hlt])
  have HC:Hid (c≤8*bs.length):=hc
  have hld:decide ((y:Int)<2)=true:=by simp;omega
  clear hs hc hlt
  go_enter Tryz.func146,Tryz.ntmps146
  go_wp2_with fail
  go_ret2
  rw[HE.out]
  exact⟨⟨rfl,HC.out,HS.out⟩,Kept.refl _ _⟩
 ·have hld:decide ((y:Int)<2)=false:=by simp;omega
  obtain⟨wd,qd,rm,hd,hwd,hw13,hq14,hquo,hquo1,hrmI,hhdI,hhd,hrm4,hhd8⟩:=quo2 y hlt hy
  have HT:=ptake_any w p c wd s bs hs hc hlen (by omega)
  have HW:Hid (wd=y / 2-1):=hwd
  have HHD:Hid (hd=2+y % 2):=hhd
  clear hs hc hwd hhd
  cases ht:tkP (ofBytes bs) c wd with
  | error er=>
   rw[ht]at HT
   have HE:Hid (numP (ofBytes bs) c y 2=.error er):=hid (by unfold numP;rw[if_neg hlt,←HW.out,bindP_no ht])
   clear ht hlt hrmI hhdI
   go_enter Tryz.func146,Tryz.ntmps146
   go_wp2_with fail
   refine HT.mono ?_
   rintro e w2 ⟨hn2,hk2⟩
   obtain⟨rfl,her,hst⟩:=hn2.err
   have hed:((er:Int) != 0)=true:=by simp;omega
   have HST:Hid (∃c',c'≤8*bs.length∧St w2 p s bs c'):=hst
   have HK2:Hid (Kept (·=p) w w2):=hk2
   have HER2:Hid (er≠0):=her
   clear hn2 hst hk2 HT her
   go_wp2_with fail
   go_ret2
   rw[HE.out]
   exact⟨⟨rfl,HER2.out,HST.out⟩,HK2.out⟩
  | ok x=>
   obtain⟨x,c2⟩:=x
   rw[ht]at HT
   obtain⟨pw,hpI,hpe,hpl,hxl⟩:=num_parts hd wd x hhd8 hw13 (by rw[(tkP_ok ht).1];exact numAt_lt _ (ofBytes_lt bs) _ _)
   obtain⟨z,hz⟩:∃z,z=pw+x:=⟨_,rfl⟩
   have HE:Hid (numP (ofBytes bs) c y 2=.ok (z,c2)):=hid (by unfold numP;rw[if_neg hlt,←HW.out,bindP_is ht,hz,←hpe,←HHD.out])
   have HPI:Hid ((hd:Int)*2 ^ wd=(pw:Int)):=hpI
   clear ht hlt hpe hpI
   have hzI:(pw:Int)+(x:Int)=(z:Int):=by omega
   have hzl:z≤100000:=by omega
   have HSH:Hid (wrap64 ((hd:Int)*2 ^ wd)=(pw:Int)):=hid (by rw[HPI.out];unfold wrap64;omega)
   clear hz hpl hxl HPI
   have hsh:=HSH.out
   go_enter Tryz.func146,Tryz.ntmps146
   go_wp2_with fail
   refine HT.mono ?_
   rintro e w2 ⟨hn2,hk2⟩
   obtain⟨rfl,hc2,hst⟩:=hn2.ok
   have HST:Hid (St w2 p s bs c2):=hst
   have HC2:Hid (c2≤8*bs.length):=hc2
   have HK2:Hid (Kept (·=p) w w2):=hk2
   clear hn2 hst hk2 HT hc2
   go_wp2_with fail
   go_ret2
   rw[HE.out]
   exact⟨⟨rfl,HC2.out,HST.out⟩,HK2.out⟩

end Go.Proofs.YtggcbnhckcenmaaGreatDoor

namespace Go.Proofs.YtggcbnhckcenmaaGreatDoor
open Go.RowKit

abbrev tok0:Array Value:=#[.int .u8 0,.int .i64 0,.int .i64 0]

def DistP(w:World)(dv:Value)(dist:List Nat)(O:Nat→Prop):Prop:=
 (usedB dist=false∧dv=.pointer none)∨(usedB dist=true∧∃d vc vs,dv=.pointer (some ⟨d,0,none⟩)∧Dec w d vc vs dist∧∀k,DF d vc vs k→O k)

theorem DistP.kept{F O:Nat→Prop}{w w':World}{dv:Value}{dist:List Nat}(h:DistP w dv dist O)(hk:Kept F w w')(hO:∀k,O k→¬F k):DistP w' dv dist O:=by
 rcases h with h | ⟨hu,d,vc,vs,rfl,hd,hO2⟩
 ·exact .inl h
 ·exact .inr ⟨hu,d,vc,vs,rfl,hd.kept hk (fun k hk2=>hO k (hO2 k hk2)),hO2⟩

theorem DistP.less{O O':Nat→Prop}{w:World}{dv:Value}{dist:List Nat}(h:DistP w dv dist O)(hO:∀k,O k→O' k):DistP w dv dist O':=by
 rcases h with h | ⟨hu,d,vc,vs,rfl,hd,hO2⟩
 ·exact .inl h
 ·exact .inr ⟨hu,d,vc,vs,rfl,hd,fun k hk=>hO k (hO2 k hk)⟩

def CopA(w':World)(p:Nat)(s:Value)(bs:List Nat)(e:Ending):Except Nat ((Nat×Nat)×Nat)→Prop
 | .error er=>e=.returned (.tuple #[.agg tok0,.int .i64 (er:Nat)])∧er≠0∧∃c',c'≤8*bs.length∧St w' p s bs c'
 | .ok (x,c')=>e=.returned (.tuple #[.agg #[.int .u8 0,.int .i64 (x.1:Nat),.int .i64 (x.2:Nat)],.int .i64 0])∧c'≤8*bs.length∧St w' p s bs c'

theorem lenP_le{ls:List Nat}(hb:∀b∈ls,b<2){c y n c':Nat}(hy:y≤285)(h257:257≤y)(h:lenP ls c y=.ok (n,c')):3≤n∧n≤258:=by
 unfold lenP at h
 split at h
 ·obtain⟨x,c2,h1,h2⟩:=bindP_ok.1 h
  simp only[Except.ok.injEq,Prod.mk.injEq]at h2
  rename_i hlt
  have:x≤255:=by
   unfold numP at h1
   split at h1
   ·simp only[Except.ok.injEq,Prod.mk.injEq]at h1;omega
   ·obtain⟨v,c3,h3,h4⟩:=bindP_ok.1 h1
    simp only[Except.ok.injEq,Prod.mk.injEq]at h4
    have hv:v<2 ^ ((y-257) / 4-1):=by rw[(tkP_ok h3).1];exact numAt_lt _ hb _ _
    have hq:(y-257) / 4-1≤5:=by omega
    have key:∀q,q≤5→∀r,r≤3→∀v,v<2 ^ q→(4+r)*2 ^ q+v≤255:=by
     intro q hq r hr v hv
     have hp:2 ^ q≤2 ^ 5:=Nat.pow_le_pow_right (by decide) hq
     have e5:(2:Nat) ^ 5=32:=by decide
     rw[e5]at hp
     have h1:(4+r)*2 ^ q≤7*2 ^ q:=Nat.mul_le_mul_right _ (by omega)
     generalize 2 ^ q=m at *
     generalize (4+r)*m=mm at *
     omega
    have:=key _ hq ((y-257) % 4) (by omega) v hv
    omega
  omega
 ·simp only[Except.ok.injEq,Prod.mk.injEq]at h;omega

theorem numP2_le{ls:List Nat}(hb:∀b∈ls,b<2){c y n c':Nat}(hy:y≤29)(h:numP ls c y 2=.ok (n,c')):n≤32767:=by
 unfold numP at h
 split at h
 ·simp only[Except.ok.injEq,Prod.mk.injEq]at h;omega
 ·obtain⟨v,c3,h3,h4⟩:=bindP_ok.1 h
  simp only[Except.ok.injEq,Prod.mk.injEq]at h4
  have hv:v<2 ^ (y / 2-1):=by rw[(tkP_ok h3).1];exact numAt_lt _ hb _ _
  have hq:y / 2-1≤13:=by omega
  have key:∀q,q≤13→∀r,r≤1→∀v,v<2 ^ q→(2+r)*2 ^ q+v≤32767:=by
   intro q hq r hr v hv
   have hp:2 ^ q≤2 ^ 13:=Nat.pow_le_pow_right (by decide) hq
   have e5:(2:Nat) ^ 13=8192:=by decide
   rw[e5]at hp
   have h1:(2+r)*2 ^ q≤3*2 ^ q:=Nat.mul_le_mul_right _ (by omega)
   generalize 2 ^ q=m at *
   generalize (2+r)*m=mm at *
   omega
  have:=key _ hq (y % 2) (by omega) v hv
  omega

set_option maxRecDepth 100000 in
set_option maxHeartbeats 2000000 in
theorem pcopied_any(w:World)(k p c y:Nat)(s:Value)(bs dist:List Nat)(dv:Value)(O:Nat→Prop)(hcell:w.cell? ⟨k,1,none⟩=some dv)(hD:DistP w dv dist O)(hO:∀j,O j→¬Fp p s j)(hok:OkL dist dist∨(usedB dist=true→Lok dist))(hkp:k≠p)(hs:St w p s bs c)(hc:c≤8*bs.length)(hlen:bs.length≤100000000)(hy:y≤285)(h257:257≤y):
  Calls Tryz.prog 118 #[.pointer (some ⟨k,0,none⟩),.pointer (some ⟨p,0,none⟩),.int .i64 (y:Nat)] w fun e w'=>CopA w' p s bs e (copP (ofBytes bs) dist c y)∧Kept (·=p) w w':=by
 have hlok:usedB dist=true→Lok dist:=hok.elim (fun h=>h.dist) (fun h=>h)
 obtain⟨W,hW⟩:∃W,W=w.alloc (.cells tok0 33):=⟨_,rfl⟩
 have hk0:Same w W:=by rw[hW];exact(Kept.refl _ w).alloc _
 have HK0:Hid (Kept (·=p) w W):=hid (hk0.mono (fun _ _ f=>f.elim))
 have HBK:Hid (Blk W w.heap.size tok0 33):=hid (by rw[hW];exact Blk.new w _ _)
 have hpw:p<w.heap.size:=hs.lt
 have hkw:k<w.heap.size:=World.block_lt_of_cell? w _ hcell
 have hcW:W.cell? ⟨k,1,none⟩=some dv:=hk0.cell hcell (fun f=>f)
 have HD:Hid (DistP W dv dist O):=hid (hD.kept hk0 (fun _ _ f=>f))
 have HS:Hid (St W p s bs c):=hid (hs.kept hk0 (fun _ _ f=>f))
 have HO:Hid (∀j,O j→¬Fp p s j):=hO
 have HLOK:Hid (usedB dist=true→Lok dist):=hlok
 have HP:Hid (∀j,Fp p s j→j<w.heap.size):=hid (fun j h=>hs.fp_lt h)
 have HLEN:Hid (bs.length≤100000000):=hlen
 have HC:Hid (c≤8*bs.length):=hc
 have HEQ:Hid (copP (ofBytes bs) dist c y=bindP (lenP (ofBytes bs) c y) (fun n c1=>bindP (dsyP dist (ofBytes bs) c1) (fun z c2=>bindP (numP (ofBytes bs) c2 z 2) (fun d c3=>.ok ((n,1+d),c3))))):=hid rfl
 have HLB:Hid (∀n c',lenP (ofBytes bs) c y=.ok (n,c')→3≤n∧n≤258):=hid (fun n c' h=>lenP_le (ofBytes_lt bs) hy h257 h)
 clear hs hD hO hok hlok hcell hk0 hlen hc
 by_cases hlt:y<285
 ·have hld:decide ((y:Int)<285)=true:=by simp;omega
  obtain⟨z,hz⟩:∃z,z=y-257:=⟨_,rfl⟩
  have hzI:(y:Int)-257=(z:Int):=by omega
  have hz29:z≤29:=by omega
  have HN:=pnum4_any W p c z s bs HS.out HC.out HLEN.out hz29
  have HLE:Hid (lenP (ofBytes bs) c y=bindP (numP (ofBytes bs) c z 4) (fun n c'=>.ok (3+n,c'))):=hid (by unfold lenP;rw[if_pos hlt,hz])
  clear hlt hz hy h257
  cases hn:numP (ofBytes bs) c z 4 with
  | error er=>
   rw[hn]at HN
   have HE:Hid (copP (ofBytes bs) dist c y=.error er):=hid (by rw[HEQ.out,HLE.out,hn];rfl)
   clear hn
   go_enter Tryz.func118,Tryz.ntmps118
   go_wp2_with fail
   rw[←hW]
   clear hW
   refine HN.mono ?_
   rintro e w2 ⟨hn2,hk2⟩
   obtain⟨rfl,her,hst⟩:=hn2.err
   clear hn2 HN
   have hed:((er:Int) != 0)=true:=by simp;omega
   have HER:Hid (er≠0):=her
   have HST:Hid (∃c',c'≤8*bs.length∧St w2 p s bs c'):=hst
   have HKE:Hid (Kept (·=p) w w2):=hid (HK0.out.trans hk2 (fun _ _ h=>h) (fun _ _ h=>h))
   have HBE:Hid (Blk w2 w.heap.size tok0 33):=hid (HBK.out.kept hk2 (by omega))
   have fz0:w2.frozen? ⟨w.heap.size,0,none⟩=false:=HBE.out.frozen 0
   have fz1:w2.frozen? ⟨w.heap.size,1,none⟩=false:=HBE.out.frozen 1
   have fz2:w2.frozen? ⟨w.heap.size,2,none⟩=false:=HBE.out.frozen 2
   have cz0:w2.cell? ⟨w.heap.size,0,none⟩=some (.int .u8 0):=HBE.out.cell 0
   have cz1:w2.cell? ⟨w.heap.size,1,none⟩=some (.int .i64 0):=HBE.out.cell 1
   have cz2:w2.cell? ⟨w.heap.size,2,none⟩=some (.int .i64 0):=HBE.out.cell 2
   clear her hst hk2
   go_wp2_with fail
   have HKF:Hid (Kept (·=w.heap.size) w2 (((w2.setCell ⟨w.heap.size,0,none⟩ (.int .u8 0)).setCell ⟨w.heap.size,1,none⟩ (.int .i64 0)).setCell ⟨w.heap.size,2,none⟩ (.int .i64 0))):=hid ((((Kept.refl (·=w.heap.size) w2).setCell ⟨w.heap.size,0,none⟩ _ (.inl rfl)).setCell ⟨w.heap.size,1,none⟩ _ (.inl rfl)).setCell ⟨w.heap.size,2,none⟩ _ (.inl rfl))
   refine bodyPost_ret (v:=.tuple #[.agg tok0,.int .i64 (er:Nat)]) (by simp[results,Tryz.results118,go_sem,cz0,cz1,cz2]) rfl ?_
   refine⟨?_,Kept.trans HKE.out HKF.out (fun _ _ h=>h) (fun j hj e=>by omega)⟩
   rw[HE.out]
   obtain⟨c9,h9,hs9⟩:=HST.out
   exact⟨rfl,HER.out,c9,h9,hs9.kept HKF.out (fun j h e=>by have:=HP.out j h;omega)⟩
  | ok x=>
   obtain⟨x,c2⟩:=x
   rw[hn]at HN
   have HLE2:Hid (lenP (ofBytes bs) c y=.ok (3+x,c2)):=hid (by rw[HLE.out,hn];rfl)
   have hx3:=(HLB.out _ _ HLE2.out).2
   obtain⟨n,hn3⟩:∃n,n=3+x:=⟨_,rfl⟩
   have hnI:(3:Int)+(x:Int)=(n:Int):=by omega
   have HEA:Hid (copP (ofBytes bs) dist c y=bindP (dsyP dist (ofBytes bs) c2) (fun z c2=>bindP (numP (ofBytes bs) c2 z 2) (fun d c3=>.ok ((n,1+d),c3)))):=hid (by rw[HEQ.out,bindP_is HLE2.out,hn3])
   clear hn hn3
   go_enter Tryz.func118,Tryz.ntmps118
   go_wp2_with fail
   rw[←hW]
   clear hW
   refine HN.mono ?_
   rintro e w2 ⟨hn2,hk2⟩
   obtain⟨rfl,hc2,hst⟩:=hn2.ok
   have HSA:Hid (St w2 p s bs c2):=hst
   have HCA:Hid (c2≤8*bs.length):=hc2
   have HKA:Hid (Kept (·=p) w w2):=hid (HK0.out.trans hk2 (fun _ _ h=>h) (fun _ _ h=>h))
   have HBA:Hid (Blk w2 w.heap.size tok0 33):=hid (HBK.out.kept hk2 (by omega))
   have HDA:Hid (DistP w2 dv dist O):=hid (HD.out.kept hk2 (fun j hj e=>HO.out j hj (.inl e)))
   have hcA:w2.cell? ⟨k,1,none⟩=some dv:=hk2.cell hcW hkp
   clear hn2 HN hst hc2 hk2 hcW HK0 HBK HD HS
   rcases HDA.out with⟨hu,rfl⟩ | ⟨hu,d,vc,vs,rfl,hdec,hOd⟩
   ·have HE:Hid (copP (ofBytes bs) dist c y=.error 53):=hid (by rw[HEA.out,bindP_no (e:=53) (by unfold dsyP;rw[if_pos hu])])
    have HSY:=psym_nil w2 (.pointer (some ⟨p,0,none⟩)) 29
    clear hu HEA HDA
    go_wp2_with fail
    refine HSY.mono ?_
    rintro e w3 ⟨rfl,hw3⟩
    obtain⟨er,herd⟩:∃er,er=53:=⟨_,rfl⟩
    have her:er≠0:=by omega
    have hst:∃c',c'≤8*bs.length∧St w3 p s bs c':=⟨c2,HCA.out,by rw[hw3];exact HSA.out⟩
    have hk2:Kept (·=p) w2 w3:=by rw[hw3];exact Kept.refl _ _
    clear hw3
    rw[←herd]at HE
    clear HSY
    have herI:(53:Int)=(er:Int):=by omega
    rw[herI]
    clear herd herI
    have hed:((er:Int) != 0)=true:=by simp;omega
    have HER:Hid (er≠0):=her
    have HST:Hid (∃c',c'≤8*bs.length∧St w3 p s bs c'):=hst
    have HKE:Hid (Kept (·=p) w w3):=hid (HKA.out.trans hk2 (fun _ _ h=>h) (fun _ _ h=>h))
    have HBE:Hid (Blk w3 w.heap.size tok0 33):=hid (HBA.out.kept hk2 (by omega))
    have fz0:w3.frozen? ⟨w.heap.size,0,none⟩=false:=HBE.out.frozen 0
    have fz1:w3.frozen? ⟨w.heap.size,1,none⟩=false:=HBE.out.frozen 1
    have fz2:w3.frozen? ⟨w.heap.size,2,none⟩=false:=HBE.out.frozen 2
    have cz0:w3.cell? ⟨w.heap.size,0,none⟩=some (.int .u8 0):=HBE.out.cell 0
    have cz1:w3.cell? ⟨w.heap.size,1,none⟩=some (.int .i64 0):=HBE.out.cell 1
    have cz2:w3.cell? ⟨w.heap.size,2,none⟩=some (.int .i64 0):=HBE.out.cell 2
    clear her hst hk2
    go_wp2_with fail
    have HKF:Hid (Kept (·=w.heap.size) w3 (((w3.setCell ⟨w.heap.size,0,none⟩ (.int .u8 0)).setCell ⟨w.heap.size,1,none⟩ (.int .i64 0)).setCell ⟨w.heap.size,2,none⟩ (.int .i64 0))):=hid ((((Kept.refl (·=w.heap.size) w3).setCell ⟨w.heap.size,0,none⟩ _ (.inl rfl)).setCell ⟨w.heap.size,1,none⟩ _ (.inl rfl)).setCell ⟨w.heap.size,2,none⟩ _ (.inl rfl))
    refine bodyPost_ret (v:=.tuple #[.agg tok0,.int .i64 (er:Nat)]) (by simp[results,Tryz.results118,go_sem,cz0,cz1,cz2]) rfl ?_
    refine⟨?_,Kept.trans HKE.out HKF.out (fun _ _ h=>h) (fun j hj e=>by omega)⟩
    rw[HE.out]
    obtain⟨c9,h9,hs9⟩:=HST.out
    exact⟨rfl,HER.out,c9,h9,hs9.kept HKF.out (fun j h e=>by have:=HP.out j h;omega)⟩
   ·have HSY:=psym_any w2 d vc vs dist p c2 29 s bs (HLOK.out hu) hdec HSA.out HCA.out HLEN.out (fun j hj=>HO.out j (hOd j hj))
    have HEB:Hid (copP (ofBytes bs) dist c y=bindP (syP dist (ofBytes bs) c2 29) (fun z c2=>bindP (numP (ofBytes bs) c2 z 2) (fun d c3=>.ok ((n,1+d),c3)))):=hid (by rw[HEA.out];unfold dsyP;rw[if_neg (by rw[hu];decide)])
    clear hu HEA hdec hOd
    cases hsy:syP dist (ofBytes bs) c2 29 with
    | error er=>
     rw[hsy]at HSY
     have HE:Hid (copP (ofBytes bs) dist c y=.error er):=hid (by rw[HEB.out,bindP_no hsy])
     clear hsy HEB
     go_wp2_with fail
     refine HSY.mono ?_
     rintro e w3 ⟨hn2,hk2⟩
     obtain⟨rfl,her,hst⟩:=hn2.err
     clear hn2 HSY
     have hed:((er:Int) != 0)=true:=by simp;omega
     have HER:Hid (er≠0):=her
     have HST:Hid (∃c',c'≤8*bs.length∧St w3 p s bs c'):=hst
     have HKE:Hid (Kept (·=p) w w3):=hid (HKA.out.trans hk2 (fun _ _ h=>h) (fun _ _ h=>h))
     have HBE:Hid (Blk w3 w.heap.size tok0 33):=hid (HBA.out.kept hk2 (by omega))
     have fz0:w3.frozen? ⟨w.heap.size,0,none⟩=false:=HBE.out.frozen 0
     have fz1:w3.frozen? ⟨w.heap.size,1,none⟩=false:=HBE.out.frozen 1
     have fz2:w3.frozen? ⟨w.heap.size,2,none⟩=false:=HBE.out.frozen 2
     have cz0:w3.cell? ⟨w.heap.size,0,none⟩=some (.int .u8 0):=HBE.out.cell 0
     have cz1:w3.cell? ⟨w.heap.size,1,none⟩=some (.int .i64 0):=HBE.out.cell 1
     have cz2:w3.cell? ⟨w.heap.size,2,none⟩=some (.int .i64 0):=HBE.out.cell 2
     clear her hst hk2
     go_wp2_with fail
     have HKF:Hid (Kept (·=w.heap.size) w3 (((w3.setCell ⟨w.heap.size,0,none⟩ (.int .u8 0)).setCell ⟨w.heap.size,1,none⟩ (.int .i64 0)).setCell ⟨w.heap.size,2,none⟩ (.int .i64 0))):=hid ((((Kept.refl (·=w.heap.size) w3).setCell ⟨w.heap.size,0,none⟩ _ (.inl rfl)).setCell ⟨w.heap.size,1,none⟩ _ (.inl rfl)).setCell ⟨w.heap.size,2,none⟩ _ (.inl rfl))
     refine bodyPost_ret (v:=.tuple #[.agg tok0,.int .i64 (er:Nat)]) (by simp[results,Tryz.results118,go_sem,cz0,cz1,cz2]) rfl ?_
     refine⟨?_,Kept.trans HKE.out HKF.out (fun _ _ h=>h) (fun j hj e=>by omega)⟩
     rw[HE.out]
     obtain⟨c9,h9,hs9⟩:=HST.out
     exact⟨rfl,HER.out,c9,h9,hs9.kept HKF.out (fun j h e=>by have:=HP.out j h;omega)⟩
    | ok z=>
     obtain⟨z,c3⟩:=z
     rw[hsy]at HSY
     have hz29:z≤29:=by
      rcases syP_cases hsy with⟨h1,_⟩ | ⟨h1,_⟩ | ⟨y1,k1,_,⟨_,h1⟩ | ⟨h29,h1⟩⟩
      ·cases h1
      ·cases h1
      ·cases h1
      ·simp only[Except.ok.injEq,Prod.mk.injEq]at h1;omega
     have HEC:Hid (copP (ofBytes bs) dist c y=bindP (numP (ofBytes bs) c3 z 2) (fun d c3=>.ok ((n,1+d),c3))):=hid (by rw[HEB.out,bindP_is hsy])
     clear hsy HEB
     go_wp2_with fail
     refine HSY.mono ?_
     rintro e w3 ⟨hn2,hk2⟩
     obtain⟨rfl,hc3,hst⟩:=hn2.ok
     have HNU:=pnum2_any w3 p c3 z s bs hst hc3 HLEN.out hz29
     have HKB:Hid (Kept (·=p) w w3):=hid (HKA.out.trans hk2 (fun _ _ h=>h) (fun _ _ h=>h))
     have HBB:Hid (Blk w3 w.heap.size tok0 33):=hid (HBA.out.kept hk2 (by omega))
     clear hn2 HSY hst hc3 hk2
     cases hnu:numP (ofBytes bs) c3 z 2 with
     | error er=>
      rw[hnu]at HNU
      have HE:Hid (copP (ofBytes bs) dist c y=.error er):=hid (by rw[HEC.out,bindP_no hnu])
      clear hnu HEC
      go_wp2_with fail
      refine HNU.mono ?_
      rintro e w4 ⟨hn2,hk2⟩
      obtain⟨rfl,her,hst⟩:=hn2.err
      clear hn2 HNU
      have hed:((er:Int) != 0)=true:=by simp;omega
      have HER:Hid (er≠0):=her
      have HST:Hid (∃c',c'≤8*bs.length∧St w4 p s bs c'):=hst
      have HKE:Hid (Kept (·=p) w w4):=hid (HKB.out.trans hk2 (fun _ _ h=>h) (fun _ _ h=>h))
      have HBE:Hid (Blk w4 w.heap.size tok0 33):=hid (HBB.out.kept hk2 (by omega))
      have fz0:w4.frozen? ⟨w.heap.size,0,none⟩=false:=HBE.out.frozen 0
      have fz1:w4.frozen? ⟨w.heap.size,1,none⟩=false:=HBE.out.frozen 1
      have fz2:w4.frozen? ⟨w.heap.size,2,none⟩=false:=HBE.out.frozen 2
      have cz0:w4.cell? ⟨w.heap.size,0,none⟩=some (.int .u8 0):=HBE.out.cell 0
      have cz1:w4.cell? ⟨w.heap.size,1,none⟩=some (.int .i64 0):=HBE.out.cell 1
      have cz2:w4.cell? ⟨w.heap.size,2,none⟩=some (.int .i64 0):=HBE.out.cell 2
      clear her hst hk2
      go_wp2_with fail
      have HKF:Hid (Kept (·=w.heap.size) w4 (((w4.setCell ⟨w.heap.size,0,none⟩ (.int .u8 0)).setCell ⟨w.heap.size,1,none⟩ (.int .i64 0)).setCell ⟨w.heap.size,2,none⟩ (.int .i64 0))):=hid ((((Kept.refl (·=w.heap.size) w4).setCell ⟨w.heap.size,0,none⟩ _ (.inl rfl)).setCell ⟨w.heap.size,1,none⟩ _ (.inl rfl)).setCell ⟨w.heap.size,2,none⟩ _ (.inl rfl))
      refine bodyPost_ret (v:=.tuple #[.agg tok0,.int .i64 (er:Nat)]) (by simp[results,Tryz.results118,go_sem,cz0,cz1,cz2]) rfl ?_
      refine⟨?_,Kept.trans HKE.out HKF.out (fun _ _ h=>h) (fun j hj e=>by omega)⟩
      rw[HE.out]
      obtain⟨c9,h9,hs9⟩:=HST.out
      exact⟨rfl,HER.out,c9,h9,hs9.kept HKF.out (fun j h e=>by have:=HP.out j h;omega)⟩
     | ok q=>
      obtain⟨q,c4⟩:=q
      have hq:=numP2_le (ofBytes_lt bs) hz29 hnu
      rw[hnu]at HNU
      obtain⟨far,hfar⟩:∃far,far=1+q:=⟨_,rfl⟩
      have hfarI:(1:Int)+(q:Int)=(far:Int):=by omega
      have hfl:far≤40000:=by omega
      have HE:Hid (copP (ofBytes bs) dist c y=.ok ((n,far),c4)):=hid (by rw[HEC.out,bindP_is hnu,hfar])
      clear hnu HEC hfar hq
      go_wp2_with fail
      refine HNU.mono ?_
      rintro e w4 ⟨hn2,hk2⟩
      obtain⟨rfl,hc4,hst⟩:=hn2.ok
      have HC4:Hid (c4≤8*bs.length):=hc4
      have HST:Hid (St w4 p s bs c4):=hst
      have HKE:Hid (Kept (·=p) w w4):=hid (HKB.out.trans hk2 (fun _ _ h=>h) (fun _ _ h=>h))
      have HBE:Hid (Blk w4 w.heap.size tok0 33):=hid (HBB.out.kept hk2 (by omega))
      have fz0:w4.frozen? ⟨w.heap.size,0,none⟩=false:=HBE.out.frozen 0
      have fz1:w4.frozen? ⟨w.heap.size,1,none⟩=false:=HBE.out.frozen 1
      have fz2:w4.frozen? ⟨w.heap.size,2,none⟩=false:=HBE.out.frozen 2
      have cz0:w4.cell? ⟨w.heap.size,0,none⟩=some (.int .u8 0):=HBE.out.cell 0
      have cz1:w4.cell? ⟨w.heap.size,1,none⟩=some (.int .i64 0):=HBE.out.cell 1
      have cz2:w4.cell? ⟨w.heap.size,2,none⟩=some (.int .i64 0):=HBE.out.cell 2
      clear hn2 HNU hc4 hst hk2
      go_wp2_with fail
      have HKF:Hid (Kept (·=w.heap.size) w4 (((w4.setCell ⟨w.heap.size,0,none⟩ (.int .u8 0)).setCell ⟨w.heap.size,1,none⟩ (.int .i64 (n:Nat))).setCell ⟨w.heap.size,2,none⟩ (.int .i64 (far:Nat)))):=hid ((((Kept.refl (·=w.heap.size) w4).setCell ⟨w.heap.size,0,none⟩ _ (.inl rfl)).setCell ⟨w.heap.size,1,none⟩ _ (.inl rfl)).setCell ⟨w.heap.size,2,none⟩ _ (.inl rfl))
      refine bodyPost_ret (v:=.tuple #[.agg #[.int .u8 0,.int .i64 (n:Nat),.int .i64 (far:Nat)],.int .i64 0]) (by simp[results,Tryz.results118,go_sem,cz0,cz1,cz2]) rfl ?_
      refine⟨?_,Kept.trans HKE.out HKF.out (fun _ _ h=>h) (fun j hj e=>by omega)⟩
      rw[HE.out]
      exact⟨rfl,HC4.out,HST.out.kept HKF.out (fun j h e=>by have:=HP.out j h;omega)⟩
 ·have hld:decide ((y:Int)<285)=false:=by simp;omega
  have HLE2:Hid (lenP (ofBytes bs) c y=.ok (258,c)):=hid (by unfold lenP;rw[if_neg hlt])
  obtain⟨n,hn3⟩:∃n,n=258:=⟨_,rfl⟩
  have HEA:Hid (copP (ofBytes bs) dist c y=bindP (dsyP dist (ofBytes bs) c) (fun z c2=>bindP (numP (ofBytes bs) c2 z 2) (fun d c3=>.ok ((n,1+d),c3)))):=hid (by rw[HEQ.out,bindP_is HLE2.out,hn3])
  subst hn3
  clear hlt hy h257 HLE2
  subst hW
  have hcA:(w.alloc (.cells #[.int .u8 0,.int .i64 0,.int .i64 0] 33)).cell? ⟨k,1,none⟩=some dv:=hcW
  clear hcW
  go_enter Tryz.func118,Tryz.ntmps118
  rcases HD.out with⟨hu,rfl⟩ | ⟨hu,d,vc,vs,rfl,hdec,hOd⟩
  ·have HE:Hid (copP (ofBytes bs) dist c y=.error 53):=hid (by rw[HEA.out,bindP_no (e:=53) (by unfold dsyP;rw[if_pos hu])])
   have HSY:=psym_nil (w.alloc (.cells #[.int .u8 0,.int .i64 0,.int .i64 0] 33)) (.pointer (some ⟨p,0,none⟩)) 29
   clear hu HEA HD
   go_wp2_with fail
   refine HSY.mono ?_
   rintro e w3 ⟨rfl,hw3⟩
   obtain⟨er,herd⟩:∃er,er=53:=⟨_,rfl⟩
   have her:er≠0:=by omega
   have hst:∃c',c'≤8*bs.length∧St w3 p s bs c':=⟨c,HC.out,by rw[hw3];exact HS.out⟩
   have hk2:Kept (·=p) (w.alloc (.cells #[.int .u8 0,.int .i64 0,.int .i64 0] 33)) w3:=by rw[hw3];exact Kept.refl _ _
   clear hw3
   rw[←herd]at HE
   clear HSY
   have herI:(53:Int)=(er:Int):=by omega
   rw[herI]
   clear herd herI
   have hed:((er:Int) != 0)=true:=by simp;omega
   have HER:Hid (er≠0):=her
   have HST:Hid (∃c',c'≤8*bs.length∧St w3 p s bs c'):=hst
   have HKE:Hid (Kept (·=p) w w3):=hid (HK0.out.trans hk2 (fun _ _ h=>h) (fun _ _ h=>h))
   have HBE:Hid (Blk w3 w.heap.size tok0 33):=hid (HBK.out.kept hk2 (by omega))
   have fz0:w3.frozen? ⟨w.heap.size,0,none⟩=false:=HBE.out.frozen 0
   have fz1:w3.frozen? ⟨w.heap.size,1,none⟩=false:=HBE.out.frozen 1
   have fz2:w3.frozen? ⟨w.heap.size,2,none⟩=false:=HBE.out.frozen 2
   have cz0:w3.cell? ⟨w.heap.size,0,none⟩=some (.int .u8 0):=HBE.out.cell 0
   have cz1:w3.cell? ⟨w.heap.size,1,none⟩=some (.int .i64 0):=HBE.out.cell 1
   have cz2:w3.cell? ⟨w.heap.size,2,none⟩=some (.int .i64 0):=HBE.out.cell 2
   clear her hst hk2
   go_wp2_with fail
   have HKF:Hid (Kept (·=w.heap.size) w3 (((w3.setCell ⟨w.heap.size,0,none⟩ (.int .u8 0)).setCell ⟨w.heap.size,1,none⟩ (.int .i64 0)).setCell ⟨w.heap.size,2,none⟩ (.int .i64 0))):=hid ((((Kept.refl (·=w.heap.size) w3).setCell ⟨w.heap.size,0,none⟩ _ (.inl rfl)).setCell ⟨w.heap.size,1,none⟩ _ (.inl rfl)).setCell ⟨w.heap.size,2,none⟩ _ (.inl rfl))
   refine bodyPost_ret (v:=.tuple #[.agg tok0,.int .i64 (er:Nat)]) (by simp[results,Tryz.results118,go_sem,cz0,cz1,cz2]) rfl ?_
   refine⟨?_,Kept.trans HKE.out HKF.out (fun _ _ h=>h) (fun j hj e=>by omega)⟩
   rw[HE.out]
   obtain⟨c9,h9,hs9⟩:=HST.out
   exact⟨rfl,HER.out,c9,h9,hs9.kept HKF.out (fun j h e=>by have:=HP.out j h;omega)⟩
  ·have HSY:=psym_any (w.alloc (.cells #[.int .u8 0,.int .i64 0,.int .i64 0] 33)) d vc vs dist p c 29 s bs (HLOK.out hu) hdec HS.out HC.out HLEN.out (fun j hj=>HO.out j (hOd j hj))
   have HEB:Hid (copP (ofBytes bs) dist c y=bindP (syP dist (ofBytes bs) c 29) (fun z c2=>bindP (numP (ofBytes bs) c2 z 2) (fun d c3=>.ok ((258,1+d),c3)))):=hid (by rw[HEA.out];unfold dsyP;rw[if_neg (by rw[hu];decide)])
   clear hu HEA hdec hOd
   cases hsy:syP dist (ofBytes bs) c 29 with
   | error er=>
    rw[hsy]at HSY
    have HE:Hid (copP (ofBytes bs) dist c y=.error er):=hid (by rw[HEB.out,bindP_no hsy])
    clear hsy HEB
    go_wp2_with fail
    refine HSY.mono ?_
    rintro e w3 ⟨hn2,hk2⟩
    obtain⟨rfl,her,hst⟩:=hn2.err
    clear hn2 HSY
    have hed:((er:Int) != 0)=true:=by simp;omega
    have HER:Hid (er≠0):=her
    have HST:Hid (∃c',c'≤8*bs.length∧St w3 p s bs c'):=hst
    have HKE:Hid (Kept (·=p) w w3):=hid (HK0.out.trans hk2 (fun _ _ h=>h) (fun _ _ h=>h))
    have HBE:Hid (Blk w3 w.heap.size tok0 33):=hid (HBK.out.kept hk2 (by omega))
    have fz0:w3.frozen? ⟨w.heap.size,0,none⟩=false:=HBE.out.frozen 0
    have fz1:w3.frozen? ⟨w.heap.size,1,none⟩=false:=HBE.out.frozen 1
    have fz2:w3.frozen? ⟨w.heap.size,2,none⟩=false:=HBE.out.frozen 2
    have cz0:w3.cell? ⟨w.heap.size,0,none⟩=some (.int .u8 0):=HBE.out.cell 0
    have cz1:w3.cell? ⟨w.heap.size,1,none⟩=some (.int .i64 0):=HBE.out.cell 1
    have cz2:w3.cell? ⟨w.heap.size,2,none⟩=some (.int .i64 0):=HBE.out.cell 2
    clear her hst hk2
    go_wp2_with fail
    have HKF:Hid (Kept (·=w.heap.size) w3 (((w3.setCell ⟨w.heap.size,0,none⟩ (.int .u8 0)).setCell ⟨w.heap.size,1,none⟩ (.int .i64 0)).setCell ⟨w.heap.size,2,none⟩ (.int .i64 0))):=hid ((((Kept.refl (·=w.heap.size) w3).setCell ⟨w.heap.size,0,none⟩ _ (.inl rfl)).setCell ⟨w.heap.size,1,none⟩ _ (.inl rfl)).setCell ⟨w.heap.size,2,none⟩ _ (.inl rfl))
    refine bodyPost_ret (v:=.tuple #[.agg tok0,.int .i64 (er:Nat)]) (by simp[results,Tryz.results118,go_sem,cz0,cz1,cz2]) rfl ?_
    refine⟨?_,Kept.trans HKE.out HKF.out (fun _ _ h=>h) (fun j hj e=>by omega)⟩
    rw[HE.out]
    obtain⟨c9,h9,hs9⟩:=HST.out
    exact⟨rfl,HER.out,c9,h9,hs9.kept HKF.out (fun j h e=>by have:=HP.out j h;omega)⟩
   | ok z=>
    obtain⟨z,c3⟩:=z
    rw[hsy]at HSY
    have hz29:z≤29:=by
     rcases syP_cases hsy with⟨h1,_⟩ | ⟨h1,_⟩ | ⟨y1,k1,_,⟨_,h1⟩ | ⟨h29,h1⟩⟩
     ·cases h1
     ·cases h1
     ·cases h1
     ·simp only[Except.ok.injEq,Prod.mk.injEq]at h1;omega
    have HEC:Hid (copP (ofBytes bs) dist c y=bindP (numP (ofBytes bs) c3 z 2) (fun d c3=>.ok ((258,1+d),c3))):=hid (by rw[HEB.out,bindP_is hsy])
    clear hsy HEB
    go_wp2_with fail
    refine HSY.mono ?_
    rintro e w3 ⟨hn2,hk2⟩
    obtain⟨rfl,hc3,hst⟩:=hn2.ok
    have HNU:=pnum2_any w3 p c3 z s bs hst hc3 HLEN.out hz29
    have HKB:Hid (Kept (·=p) w w3):=hid (HK0.out.trans hk2 (fun _ _ h=>h) (fun _ _ h=>h))
    have HBB:Hid (Blk w3 w.heap.size tok0 33):=hid (HBK.out.kept hk2 (by omega))
    clear hn2 HSY hst hc3 hk2
    cases hnu:numP (ofBytes bs) c3 z 2 with
    | error er=>
     rw[hnu]at HNU
     have HE:Hid (copP (ofBytes bs) dist c y=.error er):=hid (by rw[HEC.out,bindP_no hnu])
     clear hnu HEC
     go_wp2_with fail
     refine HNU.mono ?_
     rintro e w4 ⟨hn2,hk2⟩
     obtain⟨rfl,her,hst⟩:=hn2.err
     clear hn2 HNU
     have hed:((er:Int) != 0)=true:=by simp;omega
     have HER:Hid (er≠0):=her
     have HST:Hid (∃c',c'≤8*bs.length∧St w4 p s bs c'):=hst
     have HKE:Hid (Kept (·=p) w w4):=hid (HKB.out.trans hk2 (fun _ _ h=>h) (fun _ _ h=>h))
     have HBE:Hid (Blk w4 w.heap.size tok0 33):=hid (HBB.out.kept hk2 (by omega))
     have fz0:w4.frozen? ⟨w.heap.size,0,none⟩=false:=HBE.out.frozen 0
     have fz1:w4.frozen? ⟨w.heap.size,1,none⟩=false:=HBE.out.frozen 1
     have fz2:w4.frozen? ⟨w.heap.size,2,none⟩=false:=HBE.out.frozen 2
     have cz0:w4.cell? ⟨w.heap.size,0,none⟩=some (.int .u8 0):=HBE.out.cell 0
     have cz1:w4.cell? ⟨w.heap.size,1,none⟩=some (.int .i64 0):=HBE.out.cell 1
     have cz2:w4.cell? ⟨w.heap.size,2,none⟩=some (.int .i64 0):=HBE.out.cell 2
     clear her hst hk2
     go_wp2_with fail
     have HKF:Hid (Kept (·=w.heap.size) w4 (((w4.setCell ⟨w.heap.size,0,none⟩ (.int .u8 0)).setCell ⟨w.heap.size,1,none⟩ (.int .i64 0)).setCell ⟨w.heap.size,2,none⟩ (.int .i64 0))):=hid ((((Kept.refl (·=w.heap.size) w4).setCell ⟨w.heap.size,0,none⟩ _ (.inl rfl)).setCell ⟨w.heap.size,1,none⟩ _ (.inl rfl)).setCell ⟨w.heap.size,2,none⟩ _ (.inl rfl))
     refine bodyPost_ret (v:=.tuple #[.agg tok0,.int .i64 (er:Nat)]) (by simp[results,Tryz.results118,go_sem,cz0,cz1,cz2]) rfl ?_
     refine⟨?_,Kept.trans HKE.out HKF.out (fun _ _ h=>h) (fun j hj e=>by omega)⟩
     rw[HE.out]
     obtain⟨c9,h9,hs9⟩:=HST.out
     exact⟨rfl,HER.out,c9,h9,hs9.kept HKF.out (fun j h e=>by have:=HP.out j h;omega)⟩
    | ok q=>
     obtain⟨q,c4⟩:=q
     have hq:=numP2_le (ofBytes_lt bs) hz29 hnu
     rw[hnu]at HNU
     obtain⟨far,hfar⟩:∃far,far=1+q:=⟨_,rfl⟩
     have hfarI:(1:Int)+(q:Int)=(far:Int):=by omega
     have hfl:far≤40000:=by omega
     have HE:Hid (copP (ofBytes bs) dist c y=.ok ((258,far),c4)):=hid (by rw[HEC.out,bindP_is hnu,hfar])
     clear hnu HEC hfar hq
     go_wp2_with fail
     refine HNU.mono ?_
     rintro e w4 ⟨hn2,hk2⟩
     obtain⟨rfl,hc4,hst⟩:=hn2.ok
     have HC4:Hid (c4≤8*bs.length):=hc4
     have HST:Hid (St w4 p s bs c4):=hst
     have HKE:Hid (Kept (·=p) w w4):=hid (HKB.out.trans hk2 (fun _ _ h=>h) (fun _ _ h=>h))
     have HBE:Hid (Blk w4 w.heap.size tok0 33):=hid (HBB.out.kept hk2 (by omega))
     have fz0:w4.frozen? ⟨w.heap.size,0,none⟩=false:=HBE.out.frozen 0
     have fz1:w4.frozen? ⟨w.heap.size,1,none⟩=false:=HBE.out.frozen 1
     have fz2:w4.frozen? ⟨w.heap.size,2,none⟩=false:=HBE.out.frozen 2
     have cz0:w4.cell? ⟨w.heap.size,0,none⟩=some (.int .u8 0):=HBE.out.cell 0
     have cz1:w4.cell? ⟨w.heap.size,1,none⟩=some (.int .i64 0):=HBE.out.cell 1
     have cz2:w4.cell? ⟨w.heap.size,2,none⟩=some (.int .i64 0):=HBE.out.cell 2
     clear hn2 HNU hc4 hst hk2
     go_wp2_with fail
     have HKF:Hid (Kept (·=w.heap.size) w4 (((w4.setCell ⟨w.heap.size,0,none⟩ (.int .u8 0)).setCell ⟨w.heap.size,1,none⟩ (.int .i64 258)).setCell ⟨w.heap.size,2,none⟩ (.int .i64 (far:Nat)))):=hid ((((Kept.refl (·=w.heap.size) w4).setCell ⟨w.heap.size,0,none⟩ _ (.inl rfl)).setCell ⟨w.heap.size,1,none⟩ _ (.inl rfl)).setCell ⟨w.heap.size,2,none⟩ _ (.inl rfl))
     refine bodyPost_ret (v:=.tuple #[.agg #[.int .u8 0,.int .i64 258,.int .i64 (far:Nat)],.int .i64 0]) (by simp[results,Tryz.results118,go_sem,cz0,cz1,cz2]) rfl ?_
     refine⟨?_,Kept.trans HKE.out HKF.out (fun _ _ h=>h) (fun j hj e=>by omega)⟩
     rw[HE.out]
     exact⟨rfl,HC4.out,HST.out.kept HKF.out (fun j h e=>by have:=HP.out j h;omega)⟩

end Go.Proofs.YtggcbnhckcenmaaGreatDoor

namespace Go.Proofs.YtggcbnhckcenmaaGreatDoor
open Go.RowKit

def CodesP(w:World)(k:Nat)(lit dist:List Nat)(O:Nat→Prop):Prop:=
 ∃d vc vs dv,Blk w k #[.pointer (some ⟨d,0,none⟩),dv] 147∧Dec w d vc vs lit∧(∀j,DF d vc vs j→O j)∧DistP w dv dist O∧O k

theorem CodesP.kept{F O:Nat→Prop}{w w':World}{k:Nat}{lit dist:List Nat}(h:CodesP w k lit dist O)(hk:Kept F w w')(hO:∀j,O j→¬F j):CodesP w' k lit dist O:=by
 obtain⟨d,vc,vs,dv,hb,hd,hOd,hdi,hok⟩:=h
 exact⟨d,vc,vs,dv,hb.kept hk (hO k hok),hd.kept hk (fun j hj=>hO j (hOd j hj)),hOd,hdi.kept hk hO,hok⟩

theorem CodesP.less{O O':Nat→Prop}{w:World}{k:Nat}{lit dist:List Nat}(h:CodesP w k lit dist O)(hO:∀j,O j→O' j):CodesP w k lit dist O':=by
 obtain⟨d,vc,vs,dv,hb,hd,hOd,hdi,hok⟩:=h
 exact⟨d,vc,vs,dv,hb,hd,fun j hj=>hO j (hOd j hj),hdi.less hO,hO k hok⟩

def BkP(w:World)(b:Nat)(O:Nat→Prop):Bk→Prop
 | .raw last left=>Blk w b #[.bool last,.int .i64 (left:Nat),.pointer none] 107∧left≤65535
 | .sym last lit dist=>∃k,Blk w b #[.bool last,.int .i64 0,.pointer (some ⟨k,0,none⟩)] 107∧CodesP w k lit dist O

theorem BkP.kept{F O:Nat→Prop}{w w':World}{b:Nat}{bk:Bk}(h:BkP w b O bk)(hk:Kept F w w')(hO:∀j,O j→¬F j)(hb:¬F b):BkP w' b O bk:=by
 cases bk with
 | raw last left=>exact⟨h.1.kept hk hb,h.2⟩
 | sym last lit dist=>
  obtain⟨k,h1,h2⟩:=h
  exact⟨k,h1.kept hk hb,h2.kept hk hO⟩

theorem BkP.less{O O':Nat→Prop}{w:World}{b:Nat}{bk:Bk}(h:BkP w b O bk)(hO:∀j,O j→O' j):BkP w b O' bk:=by
 cases bk with
 | raw last left=>exact h
 | sym last lit dist=>
  obtain⟨k,h1,h2⟩:=h
  exact⟨k,h1,h2.less hO⟩

theorem BkP.lt{O:Nat→Prop}{w:World}{b:Nat}{bk:Bk}(h:BkP w b O bk):b<w.heap.size:=by
 cases bk with
 | raw last left=>exact h.1.lt
 | sym last lit dist=>obtain⟨k,h1,_⟩:=h;exact h1.lt

def tokC:Tok→Array Value
 | .fin=>tok0
 | .byte b=>#[.int .u8 (b:Nat),.int .i64 0,.int .i64 0]
 | .copy n far=>#[.int .u8 0,.int .i64 (n:Nat),.int .i64 (far:Nat)]
def isFin:Tok→Bool
 | .fin=>true
 | _=>false

def StepPA(w':World)(b p:Nat)(s:Value)(bs:List Nat)(O:Nat→Prop)(bk:Bk)(e:Ending):Except Nat ((Tok×Bk)×Nat)→Prop
 | .error er=>e=.returned (.tuple #[.agg tok0,.bool false,.int .i64 (er:Nat)])∧er≠0∧BkP w' b O bk∧∃c',c'≤8*bs.length∧St w' p s bs c'
 | .ok (x,c')=>e=.returned (.tuple #[.agg (tokC x.1),.bool (isFin x.1),.int .i64 0])∧BkP w' b O x.2∧c'≤8*bs.length∧St w' p s bs c'

set_option maxRecDepth 100000 in
set_option maxHeartbeats 2000000 in
theorem pbyte_any(w:World)(b p c:Nat)(s:Value)(bs:List Nat)(last:Bool)(left:Nat)(O:Nat→Prop)(hB:BkP w b O (.raw last left))(hbp:¬Fp p s b)(hs:St w p s bs c)(hc:c≤8*bs.length)(hlen:bs.length≤100000000):
  Calls Tryz.prog 116 #[.pointer (some ⟨b,0,none⟩),.pointer (some ⟨p,0,none⟩)] w fun e w'=>StepPA w' b p s bs O (.raw last left) e (stepP (ofBytes bs) (.raw last left) c)∧Kept (fun j=>j=p∨j=b) w w':=by
 obtain⟨W,hW⟩:∃W,W=w.alloc (.cells #[.int .u8 0,.int .i64 0,.int .i64 0] 33):=⟨_,rfl⟩
 have hk0:Same w W:=by rw[hW];exact(Kept.refl _ w).alloc _
 have HK0:Hid (Kept (fun j=>j=p∨j=b) w W):=hid (hk0.mono (fun _ _ f=>f.elim))
 have HBK:Hid (Blk W w.heap.size tok0 33):=hid (by rw[hW];exact Blk.new w _ _)
 have hpw:p<w.heap.size:=hs.lt
 have hbw:b<w.heap.size:=hB.1.lt
 have hBW:Blk W b #[.bool last,.int .i64 (left:Nat),.pointer none] 107:=hB.1.kept hk0 (fun f=>f)
 have hb1:=hBW.cell 1
 simp at hb1
 have HBW:Hid (Blk W b #[.bool last,.int .i64 (left:Nat),.pointer none] 107):=hBW
 have hne:b≠p:=fun e=>hbp (.inl e)
 have HNE:Hid (¬Fp p s b):=hbp
 have HS:Hid (St W p s bs c):=hid (hs.kept hk0 (fun _ _ f=>f))
 have HP:Hid (∀j,Fp p s j→j<w.heap.size):=hid (fun j h=>hs.fp_lt h)
 have hl:left≤65535:=hB.2
 have HL:Hid (left≤65535):=hl
 have HC:Hid (c≤8*bs.length):=hc
 have HT:=ptake_any W p c 8 s bs HS.out hc hlen (by decide)
 clear hs hB hBW hk0 hbp hc
 cases left with
 | zero=>
  have HE:Hid (stepP (ofBytes bs) (.raw last 0) c=.ok ((.fin,.raw last 0),c)):=hid (stepP_zero _ _ _)
  subst hW
  clear HT hl
  go_enter Tryz.func116,Tryz.ntmps116
  go_wp2_with fail
  refine bodyPost_ret (v:=.tuple #[.agg tok0,.bool true,.int .i64 0]) (by simp[results,Tryz.results116,go_sem]) rfl ?_
  refine⟨?_,HK0.out⟩
  rw[HE.out]
  exact⟨rfl,⟨HBW.out,HL.out⟩,HC.out,HS.out⟩
 | succ m=>
  have hlI:((((m+1:Nat):Int))==0)=false:=by simp;omega
  obtain⟨l1,hl1⟩:∃l1,l1=m+1:=⟨_,rfl⟩
  rw[←hl1]at hb1 hlI HBW hl HL
  have hsub:(l1:Int)-1=(m:Int):=by omega
  have HL1:Hid (l1=m+1):=hl1
  rw[←hl1]
  clear hl1
  cases ht:tkP (ofBytes bs) c 8 with
  | error er=>
   rw[ht]at HT
   have HE:Hid (stepP (ofBytes bs) (.raw last l1) c=.error er):=hid (by rw[HL1.out,stepP_raw,bindP_no ht])
   clear ht
   subst hW
   go_enter Tryz.func116,Tryz.ntmps116
   go_wp2_with fail
   refine HT.mono ?_
   rintro e w2 ⟨hn2,hk2⟩
   obtain⟨rfl,her,hst⟩:=hn2.err
   have hed:((er:Int) != 0)=true:=by simp;omega
   have HER:Hid (er≠0):=her
   have HST:Hid (∃c',c'≤8*bs.length∧St w2 p s bs c'):=hst
   have HKE:Hid (Kept (fun j=>j=p∨j=b) w w2):=hid (HK0.out.trans hk2 (fun _ _ h=>h) (fun _ _ h=>.inl h))
   have HBE:Hid (Blk w2 w.heap.size tok0 33):=hid (HBK.out.kept hk2 (by omega))
   have HBB:Hid (Blk w2 b #[.bool last,.int .i64 (l1:Nat),.pointer none] 107):=hid (HBW.out.kept hk2 hne)
   have fz0:=HBE.out.frozen 0
   have fz1:=HBE.out.frozen 1
   have fz2:=HBE.out.frozen 2
   have cz0:=HBE.out.cell 0
   have cz1:=HBE.out.cell 1
   have cz2:=HBE.out.cell 2
   simp at cz0 cz1 cz2
   clear her hst hk2 hn2 HT
   go_wp2_with fail
   have HKF:Hid (Kept (·=w.heap.size) w2 (((w2.setCell ⟨w.heap.size,0,none⟩ (.int .u8 0)).setCell ⟨w.heap.size,1,none⟩ (.int .i64 0)).setCell ⟨w.heap.size,2,none⟩ (.int .i64 0))):=hid ((((Kept.refl (·=w.heap.size) w2).setCell ⟨w.heap.size,0,none⟩ _ (.inl rfl)).setCell ⟨w.heap.size,1,none⟩ _ (.inl rfl)).setCell ⟨w.heap.size,2,none⟩ _ (.inl rfl))
   refine bodyPost_ret (v:=.tuple #[.agg tok0,.bool false,.int .i64 (er:Nat)]) (by simp[results,Tryz.results116,go_sem,cz0,cz1,cz2]) rfl ?_
   refine⟨?_,Kept.trans HKE.out HKF.out (fun _ _ h=>h) (fun j hj e=>by omega)⟩
   rw[HE.out]
   obtain⟨c9,h9,hs9⟩:=HST.out
   exact⟨rfl,HER.out,⟨HBB.out.kept HKF.out (by omega),HL.out⟩,c9,h9,hs9.kept HKF.out (fun j h e=>by have:=HP.out j h;omega)⟩
  | ok x=>
   obtain⟨x,c2⟩:=x
   rw[ht]at HT
   have hx8:x<256:=by
    rw[(tkP_ok ht).1]
    exact numAt_lt _ (ofBytes_lt bs) _ _
   have hxm:(x:Int) % 256=(x:Int):=by omega
   have HE:Hid (stepP (ofBytes bs) (.raw last l1) c=.ok ((.byte x,.raw last m),c2)):=hid (by rw[HL1.out,stepP_raw,bindP_is ht])
   clear ht
   subst hW
   go_enter Tryz.func116,Tryz.ntmps116
   go_wp2_with fail
   refine HT.mono ?_
   rintro e w2 ⟨hn2,hk2⟩
   obtain⟨rfl,hc2,hst⟩:=hn2.ok
   have HC2:Hid (c2≤8*bs.length):=hc2
   have HST:Hid (St w2 p s bs c2):=hst
   have HKE:Hid (Kept (fun j=>j=p∨j=b) w w2):=hid (HK0.out.trans hk2 (fun _ _ h=>h) (fun _ _ h=>.inl h))
   have HBE:Hid (Blk w2 w.heap.size tok0 33):=hid (HBK.out.kept hk2 (by omega))
   have HBB:Hid (Blk w2 b #[.bool last,.int .i64 (l1:Nat),.pointer none] 107):=hid (HBW.out.kept hk2 hne)
   have d1:=HBB.out.cell 1
   have fd1:=HBB.out.frozen 1
   simp at d1
   have HBF:Hid (Blk (w2.setCell ⟨b,1,none⟩ (.int .i64 (m:Nat))) w.heap.size tok0 33):=hid (HBE.out.kept ((Kept.refl (·=b) w2).setCell ⟨b,1,none⟩ _ (.inl rfl)) (by omega))
   have fz0:(w2.setCell ⟨b,1,none⟩ (.int .i64 (m:Nat))).frozen? ⟨w.heap.size,0,none⟩=false:=HBF.out.frozen 0
   have fz1:(w2.setCell ⟨b,1,none⟩ (.int .i64 (m:Nat))).frozen? ⟨w.heap.size,1,none⟩=false:=HBF.out.frozen 1
   have fz2:(w2.setCell ⟨b,1,none⟩ (.int .i64 (m:Nat))).frozen? ⟨w.heap.size,2,none⟩=false:=HBF.out.frozen 2
   have cz0:(w2.setCell ⟨b,1,none⟩ (.int .i64 (m:Nat))).cell? ⟨w.heap.size,0,none⟩=some (.int .u8 0):=HBF.out.cell 0
   have cz1:(w2.setCell ⟨b,1,none⟩ (.int .i64 (m:Nat))).cell? ⟨w.heap.size,1,none⟩=some (.int .i64 0):=HBF.out.cell 1
   have cz2:(w2.setCell ⟨b,1,none⟩ (.int .i64 (m:Nat))).cell? ⟨w.heap.size,2,none⟩=some (.int .i64 0):=HBF.out.cell 2
   clear hc2 hst hk2 hn2 HT
   go_wp2_with fail
   have HKB:Hid (Kept (·=b) w2 (w2.setCell ⟨b,1,none⟩ (.int .i64 (m:Nat)))):=hid ((Kept.refl (·=b) w2).setCell ⟨b,1,none⟩ _ (.inl rfl))
   have HB3:Hid (Blk (w2.setCell ⟨b,1,none⟩ (.int .i64 (m:Nat))) b #[.bool last,.int .i64 (m:Nat),.pointer none] 107):=hid (by
    have:=HBB.out.set 1 (.int .i64 (m:Nat))
    simpa using this)
   have HS3:Hid (St (w2.setCell ⟨b,1,none⟩ (.int .i64 (m:Nat))) p s bs c2):=hid (HST.out.kept HKB.out (fun j h e=>HNE.out (by rw[←e];exact h)))
   have HK3:Hid (Kept (fun j=>j=p∨j=b) w (w2.setCell ⟨b,1,none⟩ (.int .i64 (m:Nat)))):=hid (HKE.out.trans HKB.out (fun _ _ h=>h) (fun _ _ h=>.inr h))
   have HKF:Hid (Kept (·=w.heap.size) (w2.setCell ⟨b,1,none⟩ (.int .i64 (m:Nat))) ((((w2.setCell ⟨b,1,none⟩ (.int .i64 (m:Nat))).setCell ⟨w.heap.size,0,none⟩ (.int .u8 (x:Nat))).setCell ⟨w.heap.size,1,none⟩ (.int .i64 0)).setCell ⟨w.heap.size,2,none⟩ (.int .i64 0))):=hid ((((Kept.refl (·=w.heap.size) (w2.setCell ⟨b,1,none⟩ (.int .i64 (m:Nat)))).setCell ⟨w.heap.size,0,none⟩ _ (.inl rfl)).setCell ⟨w.heap.size,1,none⟩ _ (.inl rfl)).setCell ⟨w.heap.size,2,none⟩ _ (.inl rfl))
   refine bodyPost_ret (v:=.tuple #[.agg #[.int .u8 (x:Nat),.int .i64 0,.int .i64 0],.bool false,.int .i64 0]) (by simp[results,Tryz.results116,go_sem,cz0,cz1,cz2]) rfl ?_
   refine⟨?_,Kept.trans HK3.out HKF.out (fun _ _ h=>h) (fun j hj e=>by omega)⟩
   rw[HE.out]
   exact⟨rfl,⟨HB3.out.kept HKF.out (by omega),by have:=HL.out;have:=HL1.out;omega⟩,HC2.out,HS3.out.kept HKF.out (fun j h e=>by have:=HP.out j h;omega)⟩

end Go.Proofs.YtggcbnhckcenmaaGreatDoor

namespace Go.Proofs.YtggcbnhckcenmaaGreatDoor
open Go.RowKit

theorem StepPA.err{w':World}{b p:Nat}{s:Value}{bs:List Nat}{O:Nat→Prop}{bk:Bk}{e:Ending}{er:Nat}(h:StepPA w' b p s bs O bk e (.error er)):e=.returned (.tuple #[.agg tok0,.bool false,.int .i64 (er:Nat)])∧er≠0∧BkP w' b O bk∧∃c',c'≤8*bs.length∧St w' p s bs c':=h
theorem StepPA.ok{w':World}{b p:Nat}{s:Value}{bs:List Nat}{O:Nat→Prop}{bk:Bk}{e:Ending}{x:Tok×Bk}{c':Nat}(h:StepPA w' b p s bs O bk e (.ok (x,c'))):e=.returned (.tuple #[.agg (tokC x.1),.bool (isFin x.1),.int .i64 0])∧BkP w' b O x.2∧c'≤8*bs.length∧St w' p s bs c':=h
theorem CopA.err{w':World}{p:Nat}{s:Value}{bs:List Nat}{e:Ending}{er:Nat}(h:CopA w' p s bs e (.error er)):e=.returned (.tuple #[.agg tok0,.int .i64 (er:Nat)])∧er≠0∧∃c',c'≤8*bs.length∧St w' p s bs c':=h
theorem CopA.ok{w':World}{p:Nat}{s:Value}{bs:List Nat}{e:Ending}{x:Nat×Nat}{c':Nat}(h:CopA w' p s bs e (.ok (x,c'))):e=.returned (.tuple #[.agg #[.int .u8 0,.int .i64 (x.1:Nat),.int .i64 (x.2:Nat)],.int .i64 0])∧c'≤8*bs.length∧St w' p s bs c':=h

theorem symP_byte{ls:List Nat}{last:Bool}{lit dist:List Nat}{y c:Nat}(h:y<256):symP ls last lit dist y c=.ok ((.byte y,.sym last lit dist),c):=by unfold symP;rw[if_pos h]
theorem symP_fin{ls:List Nat}{last:Bool}{lit dist:List Nat}{c:Nat}:symP ls last lit dist 256 c=.ok ((.fin,.sym last lit dist),c):=by unfold symP;rw[if_neg (by omega),if_pos rfl]
theorem symP_copy{ls:List Nat}{last:Bool}{lit dist:List Nat}{y c:Nat}(h:256<y):symP ls last lit dist y c=bindP (copP ls dist c y) (fun x c2=>.ok ((.copy x.1 x.2,.sym last lit dist),c2)):=by unfold symP;rw[if_neg (by omega),if_neg (by omega)]

set_option maxRecDepth 100000 in
set_option maxHeartbeats 2000000 in
theorem pstep_raw(w:World)(b p c:Nat)(s:Value)(bs:List Nat)(last:Bool)(left:Nat)(O:Nat→Prop)(hB:BkP w b O (.raw last left))(hOL:∀j,O j→j<w.heap.size)(hbp:¬Fp p s b)(hs:St w p s bs c)(hc:c≤8*bs.length)(hlen:bs.length≤100000000):
  Calls Tryz.prog 75 #[.pointer (some ⟨b,0,none⟩),.pointer (some ⟨p,0,none⟩)] w fun e w'=>StepPA w' b p s bs O (.raw last left) e (stepP (ofBytes bs) (.raw last left) c)∧Kept (fun j=>j=p∨j=b) w w':=by
 obtain⟨W,hW⟩:∃W,W=w.alloc (.cells #[.int .u8 0,.int .i64 0,.int .i64 0] 33):=⟨_,rfl⟩
 have hk0:Same w W:=by rw[hW];exact(Kept.refl _ w).alloc _
 have HK0:Hid (Kept (fun j=>j=p∨j=b) w W):=hid (hk0.mono (fun _ _ f=>f.elim))
 have HBK:Hid (Blk W w.heap.size tok0 33):=hid (by rw[hW];exact Blk.new w _ _)
 have hpw:p<w.heap.size:=hs.lt
 have hbw:b<w.heap.size:=hB.1.lt
 have HBW:Hid (BkP W b O (.raw last left)):=hid (hB.kept hk0 (fun _ _ f=>f) (fun f=>f))
 have hb2:=HBW.out.1.cell 2
 simp at hb2
 have HOL:Hid (∀j,O j→j<w.heap.size):=hOL
 have HP:Hid (∀j,Fp p s j→j<w.heap.size):=hid (fun j h=>hs.fp_lt h)
 have HS:Hid (St W p s bs c):=hid (hs.kept hk0 (fun _ _ f=>f))
 have HT:=pbyte_any W b p c s bs last left O HBW.out hbp HS.out hc hlen
 clear hs hB hk0 hbp hc hOL
 subst hW
 cases hst:stepP (ofBytes bs) (.raw last left) c with
 | error er=>
  rw[hst]at HT
  have HE:Hid (stepP (ofBytes bs) (.raw last left) c=.error er):=hst
  rw[←hst]
  clear hst
  go_enter Tryz.func75,Tryz.ntmps75
  go_wp2_with fail
  refine HT.mono ?_
  rintro e w2 ⟨hn2,hk2⟩
  obtain⟨rfl,her,hbb,hst⟩:=hn2.err
  have HER:Hid (er≠0):=her
  have HBB:Hid (BkP w2 b O (.raw last left)):=hbb
  have HST:Hid (∃c',c'≤8*bs.length∧St w2 p s bs c'):=hst
  have HKE:Hid (Kept (fun j=>j=p∨j=b) w w2):=hid (HK0.out.trans hk2 (fun _ _ h=>h) (fun _ _ h=>h))
  have HBE:Hid (Blk w2 w.heap.size tok0 33):=hid (HBK.out.kept hk2 (by omega))
  have fz0:w2.frozen? ⟨w.heap.size,0,none⟩=false:=HBE.out.frozen 0
  have fz1:w2.frozen? ⟨w.heap.size,1,none⟩=false:=HBE.out.frozen 1
  have fz2:w2.frozen? ⟨w.heap.size,2,none⟩=false:=HBE.out.frozen 2
  have cz0:w2.cell? ⟨w.heap.size,0,none⟩=some (.int .u8 0):=HBE.out.cell 0
  have cz1:w2.cell? ⟨w.heap.size,1,none⟩=some (.int .i64 0):=HBE.out.cell 1
  have cz2:w2.cell? ⟨w.heap.size,2,none⟩=some (.int .i64 0):=HBE.out.cell 2
  clear her hst hk2 hn2 HT hbb
  go_wp2_with fail
  have HKF:Hid (Kept (·=w.heap.size) w2 (((w2.setCell ⟨w.heap.size,0,none⟩ (.int .u8 0)).setCell ⟨w.heap.size,1,none⟩ (.int .i64 0)).setCell ⟨w.heap.size,2,none⟩ (.int .i64 0))):=hid ((((Kept.refl (·=w.heap.size) w2).setCell ⟨w.heap.size,0,none⟩ _ (.inl rfl)).setCell ⟨w.heap.size,1,none⟩ _ (.inl rfl)).setCell ⟨w.heap.size,2,none⟩ _ (.inl rfl))
  refine bodyPost_ret (v:=.tuple #[.agg #[.int .u8 0,.int .i64 0,.int .i64 0],.bool false,.int .i64 (er:Nat)]) (by simp[results,Tryz.results75,go_sem,cz0,cz1,cz2]) rfl ?_
  refine⟨?_,Kept.trans HKE.out HKF.out (fun _ _ h=>h) (fun j hj e=>by omega)⟩
  rw[HE.out]
  obtain⟨c9,h9,hs9⟩:=HST.out
  exact⟨rfl,HER.out,HBB.out.kept HKF.out (fun j hj e=>by have:=HOL.out j hj;omega) (by omega),c9,h9,hs9.kept HKF.out (fun j h e=>by have:=HP.out j h;omega)⟩
 | ok x=>
  obtain⟨⟨t,bk'⟩,c2⟩:=x
  rw[hst]at HT
  have HE:Hid (stepP (ofBytes bs) (.raw last left) c=.ok ((t,bk'),c2)):=hst
  rw[←hst]
  have htc:(t=.fin)∨∃v,t=.byte v:=by
   cases left with
   | zero=>
    rw[stepP_zero]at hst
    simp only[Except.ok.injEq,Prod.mk.injEq]at hst
    exact .inl hst.1.1.symm
   | succ m=>
    rw[stepP_raw]at hst
    obtain⟨v,c3,_,h⟩:=bindP_ok.1 hst
    simp only[Except.ok.injEq,Prod.mk.injEq]at h
    exact .inr ⟨v,h.1.1.symm⟩
  clear hst
  rcases htc with rfl | ⟨v,rfl⟩
  ·go_enter Tryz.func75,Tryz.ntmps75
   go_wp2_with fail
   refine HT.mono ?_
   rintro e w2 ⟨hn2,hk2⟩
   obtain⟨rfl,hbb,hc2,hst⟩:=hn2.ok
   have HBB:Hid (BkP w2 b O bk'):=hbb
   have HC2:Hid (c2≤8*bs.length):=hc2
   have HST:Hid (St w2 p s bs c2):=hst
   have HKE:Hid (Kept (fun j=>j=p∨j=b) w w2):=hid (HK0.out.trans hk2 (fun _ _ h=>h) (fun _ _ h=>h))
   have HBE:Hid (Blk w2 w.heap.size tok0 33):=hid (HBK.out.kept hk2 (by omega))
   have fz0:w2.frozen? ⟨w.heap.size,0,none⟩=false:=HBE.out.frozen 0
   have fz1:w2.frozen? ⟨w.heap.size,1,none⟩=false:=HBE.out.frozen 1
   have fz2:w2.frozen? ⟨w.heap.size,2,none⟩=false:=HBE.out.frozen 2
   have cz0:w2.cell? ⟨w.heap.size,0,none⟩=some (.int .u8 0):=HBE.out.cell 0
   have cz1:w2.cell? ⟨w.heap.size,1,none⟩=some (.int .i64 0):=HBE.out.cell 1
   have cz2:w2.cell? ⟨w.heap.size,2,none⟩=some (.int .i64 0):=HBE.out.cell 2
   clear hst hk2 hn2 HT hbb hc2
   simp only[tokC,isFin]
   go_wp2_with fail
   have HKF:Hid (Kept (·=w.heap.size) w2 (((w2.setCell ⟨w.heap.size,0,none⟩ (.int .u8 0)).setCell ⟨w.heap.size,1,none⟩ (.int .i64 0)).setCell ⟨w.heap.size,2,none⟩ (.int .i64 0))):=hid ((((Kept.refl (·=w.heap.size) w2).setCell ⟨w.heap.size,0,none⟩ _ (.inl rfl)).setCell ⟨w.heap.size,1,none⟩ _ (.inl rfl)).setCell ⟨w.heap.size,2,none⟩ _ (.inl rfl))
   refine bodyPost_ret (v:=.tuple #[.agg #[.int .u8 0,.int .i64 0,.int .i64 0],.bool true,.int .i64 0]) (by simp[results,Tryz.results75,go_sem,cz0,cz1,cz2]) rfl ?_
   refine⟨?_,Kept.trans HKE.out HKF.out (fun _ _ h=>h) (fun j hj e=>by omega)⟩
   rw[HE.out]
   exact⟨rfl,HBB.out.kept HKF.out (fun j hj e=>by have:=HOL.out j hj;omega) (by omega),HC2.out,HST.out.kept HKF.out (fun j h e=>by have:=HP.out j h;omega)⟩
  ·go_enter Tryz.func75,Tryz.ntmps75
   go_wp2_with fail
   refine HT.mono ?_
   rintro e w2 ⟨hn2,hk2⟩
   obtain⟨rfl,hbb,hc2,hst⟩:=hn2.ok
   have HBB:Hid (BkP w2 b O bk'):=hbb
   have HC2:Hid (c2≤8*bs.length):=hc2
   have HST:Hid (St w2 p s bs c2):=hst
   have HKE:Hid (Kept (fun j=>j=p∨j=b) w w2):=hid (HK0.out.trans hk2 (fun _ _ h=>h) (fun _ _ h=>h))
   have HBE:Hid (Blk w2 w.heap.size tok0 33):=hid (HBK.out.kept hk2 (by omega))
   have fz0:w2.frozen? ⟨w.heap.size,0,none⟩=false:=HBE.out.frozen 0
   have fz1:w2.frozen? ⟨w.heap.size,1,none⟩=false:=HBE.out.frozen 1
   have fz2:w2.frozen? ⟨w.heap.size,2,none⟩=false:=HBE.out.frozen 2
   have cz0:w2.cell? ⟨w.heap.size,0,none⟩=some (.int .u8 0):=HBE.out.cell 0
   have cz1:w2.cell? ⟨w.heap.size,1,none⟩=some (.int .i64 0):=HBE.out.cell 1
   have cz2:w2.cell? ⟨w.heap.size,2,none⟩=some (.int .i64 0):=HBE.out.cell 2
   clear hst hk2 hn2 HT hbb hc2
   simp only[tokC,isFin]
   go_wp2_with fail
   have HKF:Hid (Kept (·=w.heap.size) w2 (((w2.setCell ⟨w.heap.size,0,none⟩ (.int .u8 (v:Nat))).setCell ⟨w.heap.size,1,none⟩ (.int .i64 0)).setCell ⟨w.heap.size,2,none⟩ (.int .i64 0))):=hid ((((Kept.refl (·=w.heap.size) w2).setCell ⟨w.heap.size,0,none⟩ _ (.inl rfl)).setCell ⟨w.heap.size,1,none⟩ _ (.inl rfl)).setCell ⟨w.heap.size,2,none⟩ _ (.inl rfl))
   refine bodyPost_ret (v:=.tuple #[.agg #[.int .u8 (v:Nat),.int .i64 0,.int .i64 0],.bool false,.int .i64 0]) (by simp[results,Tryz.results75,go_sem,cz0,cz1,cz2]) rfl ?_
   refine⟨?_,Kept.trans HKE.out HKF.out (fun _ _ h=>h) (fun j hj e=>by omega)⟩
   rw[HE.out]
   exact⟨rfl,HBB.out.kept HKF.out (fun j hj e=>by have:=HOL.out j hj;omega) (by omega),HC2.out,HST.out.kept HKF.out (fun j h e=>by have:=HP.out j h;omega)⟩

set_option maxRecDepth 100000 in
set_option maxHeartbeats 2000000 in
theorem pstep_sym(w:World)(b p c:Nat)(s:Value)(bs:List Nat)(last:Bool)(lit dist:List Nat)(O:Nat→Prop)(hB:BkP w b O (.sym last lit dist))(hOL:∀j,O j→j<w.heap.size)(hO:∀j,O j→¬Fp p s j)(hbp:¬Fp p s b)(hok:OkL lit dist)(hs:St w p s bs c)(hc:c≤8*bs.length)(hlen:bs.length≤100000000):
  Calls Tryz.prog 75 #[.pointer (some ⟨b,0,none⟩),.pointer (some ⟨p,0,none⟩)] w fun e w'=>StepPA w' b p s bs O (.sym last lit dist) e (stepP (ofBytes bs) (.sym last lit dist) c)∧Kept (fun j=>j=p∨j=b) w w':=by
 obtain⟨W,hW⟩:∃W,W=w.alloc (.cells #[.int .u8 0,.int .i64 0,.int .i64 0] 33):=⟨_,rfl⟩
 have hk0:Same w W:=by rw[hW];exact(Kept.refl _ w).alloc _
 have HK0:Hid (Kept (fun j=>j=p∨j=b) w W):=hid (hk0.mono (fun _ _ f=>f.elim))
 have HBK:Hid (Blk W w.heap.size tok0 33):=hid (by rw[hW];exact Blk.new w _ _)
 have hpw:p<w.heap.size:=hs.lt
 have hbw:b<w.heap.size:=hB.lt
 have HBW:Hid (BkP W b O (.sym last lit dist)):=hid (hB.kept hk0 (fun _ _ f=>f) (fun f=>f))
 obtain⟨k,hbk,d,vc,vs,dv,hck,hdec,hOd,hdi,hOk⟩:=HBW.out
 have hb2:=hbk.cell 2
 have hk0c:=hck.cell 0
 have hk1c:=hck.cell 1
 simp at hb2 hk0c hk1c
 have HOL:Hid (∀j,O j→j<w.heap.size):=hOL
 have HO:Hid (∀j,O j→¬Fp p s j):=hO
 have hbpn:b≠p:=fun e=>hbp (.inl e)
 have hkp:k≠p:=fun e=>hO k hOk (.inl e)
 have HP:Hid (∀j,Fp p s j→j<w.heap.size):=hid (fun j h=>hs.fp_lt h)
 have HS:Hid (St W p s bs c):=hid (hs.kept hk0 (fun _ _ f=>f))
 have HSY:=psym_any W d vc vs lit p c 285 s bs hok.lit hdec HS.out hc hlen (fun j hj=>hO j (hOd j hj))
 have HDI:Hid (DistP W dv dist O):=hdi
 have HDO:Hid (usedB dist=true→Lok dist):=hok.dist
 have HEQ:Hid (stepP (ofBytes bs) (.sym last lit dist) c=bindP (syP lit (ofBytes bs) c 285) (symP (ofBytes bs) last lit dist)):=hid (stepP_sym _ _ _ _ _)
 have HLEN:Hid (bs.length≤100000000):=hlen
 have HBC:Hid (Blk W b #[.bool last,.int .i64 0,.pointer (some ⟨k,0,none⟩)] 107):=hbk
 have HKC:Hid (Blk W k #[.pointer (some ⟨d,0,none⟩),dv] 147):=hck
 clear hs hB hk0 hbp hc hOL hok hdec hdi hOd hbk hck hO hlen
 subst hW
 cases hsy:syP lit (ofBytes bs) c 285 with
 | error er=>
  rw[hsy]at HSY
  have HE:Hid (stepP (ofBytes bs) (.sym last lit dist) c=.error er):=hid (by rw[HEQ.out,bindP_no hsy])
  clear hsy HEQ
  go_enter Tryz.func75,Tryz.ntmps75
  go_wp2_with fail
  refine HSY.mono ?_
  rintro e w2 ⟨hn2,hk2⟩
  obtain⟨rfl,her,hst⟩:=hn2.err
  have hed:((er:Int) != 0)=true:=by simp;omega
  have HER:Hid (er≠0):=her
  have HBB:Hid (BkP w2 b O (.sym last lit dist)):=hid (HBW.out.kept hk2 (fun j hj e=>HO.out j hj (.inl e)) hbpn)
  have HST:Hid (∃c',c'≤8*bs.length∧St w2 p s bs c'):=hst
  have HKE:Hid (Kept (fun j=>j=p∨j=b) w w2):=hid (HK0.out.trans hk2 (fun _ _ h=>h) (fun _ _ h=>.inl h))
  have HBE:Hid (Blk w2 w.heap.size tok0 33):=hid (HBK.out.kept hk2 (by omega))
  have fz0:w2.frozen? ⟨w.heap.size,0,none⟩=false:=HBE.out.frozen 0
  have fz1:w2.frozen? ⟨w.heap.size,1,none⟩=false:=HBE.out.frozen 1
  have fz2:w2.frozen? ⟨w.heap.size,2,none⟩=false:=HBE.out.frozen 2
  have cz0:w2.cell? ⟨w.heap.size,0,none⟩=some (.int .u8 0):=HBE.out.cell 0
  have cz1:w2.cell? ⟨w.heap.size,1,none⟩=some (.int .i64 0):=HBE.out.cell 1
  have cz2:w2.cell? ⟨w.heap.size,2,none⟩=some (.int .i64 0):=HBE.out.cell 2
  clear her hst hk2 hn2 HSY
  go_wp2_with fail
  have HKF:Hid (Kept (·=w.heap.size) w2 (((w2.setCell ⟨w.heap.size,0,none⟩ (.int .u8 0)).setCell ⟨w.heap.size,1,none⟩ (.int .i64 0)).setCell ⟨w.heap.size,2,none⟩ (.int .i64 0))):=hid ((((Kept.refl (·=w.heap.size) w2).setCell ⟨w.heap.size,0,none⟩ _ (.inl rfl)).setCell ⟨w.heap.size,1,none⟩ _ (.inl rfl)).setCell ⟨w.heap.size,2,none⟩ _ (.inl rfl))
  refine bodyPost_ret (v:=.tuple #[.agg #[.int .u8 0,.int .i64 0,.int .i64 0],.bool false,.int .i64 (er:Nat)]) (by simp[results,Tryz.results75,go_sem,cz0,cz1,cz2]) rfl ?_
  refine⟨?_,Kept.trans HKE.out HKF.out (fun _ _ h=>h) (fun j hj e=>by omega)⟩
  rw[HE.out]
  obtain⟨c9,h9,hs9⟩:=HST.out
  exact⟨rfl,HER.out,HBB.out.kept HKF.out (fun j hj e=>by have:=HOL.out j hj;omega) (by omega),c9,h9,hs9.kept HKF.out (fun j h e=>by have:=HP.out j h;omega)⟩
 | ok y=>
  obtain⟨y,c2⟩:=y
  rw[hsy]at HSY
  have hy285:y≤285:=by
   rcases syP_cases hsy with⟨h1,_⟩ | ⟨h1,_⟩ | ⟨y1,k1,_,⟨_,h1⟩ | ⟨h29,h1⟩⟩
   ·cases h1
   ·cases h1
   ·cases h1
   ·simp only[Except.ok.injEq,Prod.mk.injEq]at h1;omega
  have HEA:Hid (stepP (ofBytes bs) (.sym last lit dist) c=symP (ofBytes bs) last lit dist y c2):=hid (by rw[HEQ.out,bindP_is hsy])
  clear hsy HEQ
  by_cases hlt:y<256
  ·have hld:decide ((y:Int)<256)=true:=by simp;omega
   have hym:(y:Int) % 256=(y:Int):=by omega
   have HE:Hid (stepP (ofBytes bs) (.sym last lit dist) c=.ok ((.byte y,.sym last lit dist),c2)):=hid (by rw[HEA.out,symP_byte hlt])
   clear HEA hlt
   go_enter Tryz.func75,Tryz.ntmps75
   go_wp2_with fail
   refine HSY.mono ?_
   rintro e w2 ⟨hn2,hk2⟩
   obtain⟨rfl,hc2,hst⟩:=hn2.ok
   have HBB:Hid (BkP w2 b O (.sym last lit dist)):=hid (HBW.out.kept hk2 (fun j hj e=>HO.out j hj (.inl e)) hbpn)
   have HC2:Hid (c2≤8*bs.length):=hc2
   have HST:Hid (St w2 p s bs c2):=hst
   have HKE:Hid (Kept (fun j=>j=p∨j=b) w w2):=hid (HK0.out.trans hk2 (fun _ _ h=>h) (fun _ _ h=>.inl h))
   have HBE:Hid (Blk w2 w.heap.size tok0 33):=hid (HBK.out.kept hk2 (by omega))
   have fz0:w2.frozen? ⟨w.heap.size,0,none⟩=false:=HBE.out.frozen 0
   have fz1:w2.frozen? ⟨w.heap.size,1,none⟩=false:=HBE.out.frozen 1
   have fz2:w2.frozen? ⟨w.heap.size,2,none⟩=false:=HBE.out.frozen 2
   have cz0:w2.cell? ⟨w.heap.size,0,none⟩=some (.int .u8 0):=HBE.out.cell 0
   have cz1:w2.cell? ⟨w.heap.size,1,none⟩=some (.int .i64 0):=HBE.out.cell 1
   have cz2:w2.cell? ⟨w.heap.size,2,none⟩=some (.int .i64 0):=HBE.out.cell 2
   clear hst hk2 hn2 HSY hc2
   go_wp2_with fail
   have HKF:Hid (Kept (·=w.heap.size) w2 (((w2.setCell ⟨w.heap.size,0,none⟩ (.int .u8 (y:Nat))).setCell ⟨w.heap.size,1,none⟩ (.int .i64 0)).setCell ⟨w.heap.size,2,none⟩ (.int .i64 0))):=hid ((((Kept.refl (·=w.heap.size) w2).setCell ⟨w.heap.size,0,none⟩ _ (.inl rfl)).setCell ⟨w.heap.size,1,none⟩ _ (.inl rfl)).setCell ⟨w.heap.size,2,none⟩ _ (.inl rfl))
   refine bodyPost_ret (v:=.tuple #[.agg #[.int .u8 (y:Nat),.int .i64 0,.int .i64 0],.bool false,.int .i64 0]) (by simp[results,Tryz.results75,go_sem,cz0,cz1,cz2]) rfl ?_
   refine⟨?_,Kept.trans HKE.out HKF.out (fun _ _ h=>h) (fun j hj e=>by omega)⟩
   rw[HE.out]
   exact⟨rfl,HBB.out.kept HKF.out (fun j hj e=>by have:=HOL.out j hj;omega) (by omega),HC2.out,HST.out.kept HKF.out (fun j h e=>by have:=HP.out j h;omega)⟩
  ·have hld:decide ((y:Int)<256)=false:=by simp;omega
   by_cases heq:y=256
   ·subst heq
    have HE:Hid (stepP (ofBytes bs) (.sym last lit dist) c=.ok ((.fin,.sym last lit dist),c2)):=hid (by rw[HEA.out,symP_fin])
    clear HEA hlt hld
    go_enter Tryz.func75,Tryz.ntmps75
    go_wp2_with fail
    refine HSY.mono ?_
    rintro e w2 ⟨hn2,hk2⟩
    obtain⟨rfl,hc2,hst⟩:=hn2.ok
    have HBB:Hid (BkP w2 b O (.sym last lit dist)):=hid (HBW.out.kept hk2 (fun j hj e=>HO.out j hj (.inl e)) hbpn)
    have HC2:Hid (c2≤8*bs.length):=hc2
    have HST:Hid (St w2 p s bs c2):=hst
    have HKE:Hid (Kept (fun j=>j=p∨j=b) w w2):=hid (HK0.out.trans hk2 (fun _ _ h=>h) (fun _ _ h=>.inl h))
    have HBE:Hid (Blk w2 w.heap.size tok0 33):=hid (HBK.out.kept hk2 (by omega))
    have fz0:w2.frozen? ⟨w.heap.size,0,none⟩=false:=HBE.out.frozen 0
    have fz1:w2.frozen? ⟨w.heap.size,1,none⟩=false:=HBE.out.frozen 1
    have fz2:w2.frozen? ⟨w.heap.size,2,none⟩=false:=HBE.out.frozen 2
    have cz0:w2.cell? ⟨w.heap.size,0,none⟩=some (.int .u8 0):=HBE.out.cell 0
    have cz1:w2.cell? ⟨w.heap.size,1,none⟩=some (.int .i64 0):=HBE.out.cell 1
    have cz2:w2.cell? ⟨w.heap.size,2,none⟩=some (.int .i64 0):=HBE.out.cell 2
    clear hst hk2 hn2 HSY hc2
    go_wp2_with fail
    have HKF:Hid (Kept (·=w.heap.size) w2 (((w2.setCell ⟨w.heap.size,0,none⟩ (.int .u8 0)).setCell ⟨w.heap.size,1,none⟩ (.int .i64 0)).setCell ⟨w.heap.size,2,none⟩ (.int .i64 0))):=hid ((((Kept.refl (·=w.heap.size) w2).setCell ⟨w.heap.size,0,none⟩ _ (.inl rfl)).setCell ⟨w.heap.size,1,none⟩ _ (.inl rfl)).setCell ⟨w.heap.size,2,none⟩ _ (.inl rfl))
    refine bodyPost_ret (v:=.tuple #[.agg #[.int .u8 0,.int .i64 0,.int .i64 0],.bool true,.int .i64 0]) (by simp[results,Tryz.results75,go_sem,cz0,cz1,cz2]) rfl ?_
    refine⟨?_,Kept.trans HKE.out HKF.out (fun _ _ h=>h) (fun j hj e=>by omega)⟩
    rw[HE.out]
    exact⟨rfl,HBB.out.kept HKF.out (fun j hj e=>by have:=HOL.out j hj;omega) (by omega),HC2.out,HST.out.kept HKF.out (fun j h e=>by have:=HP.out j h;omega)⟩
   ·have hyd:((y:Int)==256)=false:=by simp;omega
    have h257:257≤y:=by omega
    have HEB:Hid (stepP (ofBytes bs) (.sym last lit dist) c=bindP (copP (ofBytes bs) dist c2 y) (fun x c2=>.ok ((.copy x.1 x.2,.sym last lit dist),c2))):=hid (by rw[HEA.out,symP_copy (by omega)])
    clear HEA hlt heq
    go_enter Tryz.func75,Tryz.ntmps75
    go_wp2_with fail
    refine HSY.mono ?_
    rintro e w2 ⟨hn2,hk2⟩
    obtain⟨rfl,hc2,hst⟩:=hn2.ok
    have HK2:Hid (Kept (fun j=>j=p∨j=b) w w2):=hid (HK0.out.trans hk2 (fun _ _ h=>h) (fun _ _ h=>.inl h))
    have HBW2:Hid (BkP w2 b O (.sym last lit dist)):=hid (HBW.out.kept hk2 (fun j hj e=>HO.out j hj (.inl e)) hbpn)
    have HBK2:Hid (Blk w2 w.heap.size tok0 33):=hid (HBK.out.kept hk2 (by omega))
    have e2:=(HBC.out.kept hk2 hbpn).cell 2
    have e1:=(HKC.out.kept hk2 hkp).cell 1
    simp at e2 e1
    have HCO:=pcopied_any w2 k p c2 y s bs dist dv O e1 (HDI.out.kept hk2 (fun j hj e=>HO.out j hj (.inl e))) HO.out (.inr HDO.out) hkp hst hc2 HLEN.out hy285 h257
    clear hn2 HSY hc2 hst hk2
    cases hco:copP (ofBytes bs) dist c2 y with
    | error er=>
     rw[hco]at HCO
     have HE:Hid (stepP (ofBytes bs) (.sym last lit dist) c=.error er):=hid (by rw[HEB.out,bindP_no hco])
     clear hco HEB
     go_wp2_with fail
     refine HCO.mono ?_
     rintro e w3 ⟨hn2,hk2⟩
     obtain⟨rfl,her,hst⟩:=hn2.err
     have HER:Hid (er≠0):=her
     have HBB:Hid (BkP w3 b O (.sym last lit dist)):=hid (HBW2.out.kept hk2 (fun j hj e=>HO.out j hj (.inl e)) hbpn)
     have HST:Hid (∃c',c'≤8*bs.length∧St w3 p s bs c'):=hst
     have HKE:Hid (Kept (fun j=>j=p∨j=b) w w3):=hid (HK2.out.trans hk2 (fun _ _ h=>h) (fun _ _ h=>.inl h))
     have HBE:Hid (Blk w3 w.heap.size tok0 33):=hid (HBK2.out.kept hk2 (by omega))
     have fz0:w3.frozen? ⟨w.heap.size,0,none⟩=false:=HBE.out.frozen 0
     have fz1:w3.frozen? ⟨w.heap.size,1,none⟩=false:=HBE.out.frozen 1
     have fz2:w3.frozen? ⟨w.heap.size,2,none⟩=false:=HBE.out.frozen 2
     have cz0:w3.cell? ⟨w.heap.size,0,none⟩=some (.int .u8 0):=HBE.out.cell 0
     have cz1:w3.cell? ⟨w.heap.size,1,none⟩=some (.int .i64 0):=HBE.out.cell 1
     have cz2:w3.cell? ⟨w.heap.size,2,none⟩=some (.int .i64 0):=HBE.out.cell 2
     clear her hst hk2 hn2 HCO
     go_wp2_with fail
     have HKF:Hid (Kept (·=w.heap.size) w3 ((((((w3.setCell ⟨w.heap.size,0,none⟩ (.int .u8 0)).setCell ⟨w.heap.size,1,none⟩ (.int .i64 0)).setCell ⟨w.heap.size,2,none⟩ (.int .i64 0)).setCell ⟨w.heap.size,0,none⟩ (.int .u8 0)).setCell ⟨w.heap.size,1,none⟩ (.int .i64 0)).setCell ⟨w.heap.size,2,none⟩ (.int .i64 0))):=hid (((((((Kept.refl (·=w.heap.size) w3).setCell ⟨w.heap.size,0,none⟩ _ (.inl rfl)).setCell ⟨w.heap.size,1,none⟩ _ (.inl rfl)).setCell ⟨w.heap.size,2,none⟩ _ (.inl rfl)).setCell ⟨w.heap.size,0,none⟩ _ (.inl rfl)).setCell ⟨w.heap.size,1,none⟩ _ (.inl rfl)).setCell ⟨w.heap.size,2,none⟩ _ (.inl rfl))
     have HBF:Blk ((((((w3.setCell ⟨w.heap.size,0,none⟩ (.int .u8 0)).setCell ⟨w.heap.size,1,none⟩ (.int .i64 0)).setCell ⟨w.heap.size,2,none⟩ (.int .i64 0)).setCell ⟨w.heap.size,0,none⟩ (.int .u8 0)).setCell ⟨w.heap.size,1,none⟩ (.int .i64 0)).setCell ⟨w.heap.size,2,none⟩ (.int .i64 0)) w.heap.size #[.int .u8 0,.int .i64 0,.int .i64 0] 33:=by
      have:=((((((HBE.out.set 0 (.int .u8 0)).set 1 (.int .i64 0)).set 2 (.int .i64 0)).set 0 (.int .u8 0)).set 1 (.int .i64 0)).set 2 (.int .i64 0))
      simpa using this
     have g0:=HBF.cell 0
     have g1:=HBF.cell 1
     have g2:=HBF.cell 2
     generalize (((((w3.setCell ⟨w.heap.size,0,none⟩ (.int .u8 0)).setCell ⟨w.heap.size,1,none⟩ (.int .i64 0)).setCell ⟨w.heap.size,2,none⟩ (.int .i64 0)).setCell ⟨w.heap.size,0,none⟩ (.int .u8 0)).setCell ⟨w.heap.size,1,none⟩ (.int .i64 0)).setCell ⟨w.heap.size,2,none⟩ (.int .i64 0)=wF at *
     simp at g0 g1 g2
     refine bodyPost_ret (v:=.tuple #[.agg #[.int .u8 0,.int .i64 0,.int .i64 0],.bool false,.int .i64 (er:Nat)]) (by simp[results,Tryz.results75,go_sem,g0,g1,g2]) rfl ?_
     refine⟨?_,Kept.trans HKE.out HKF.out (fun _ _ h=>h) (fun j hj e=>by omega)⟩
     rw[HE.out]
     obtain⟨c9,h9,hs9⟩:=HST.out
     exact⟨rfl,HER.out,HBB.out.kept HKF.out (fun j hj e=>by have:=HOL.out j hj;omega) (by omega),c9,h9,hs9.kept HKF.out (fun j h e=>by have:=HP.out j h;omega)⟩
    | ok x=>
     obtain⟨⟨n,far⟩,c3⟩:=x
     rw[hco]at HCO
     have HE:Hid (stepP (ofBytes bs) (.sym last lit dist) c=.ok ((.copy n far,.sym last lit dist),c3)):=hid (by rw[HEB.out,bindP_is hco])
     clear hco HEB
     go_wp2_with fail
     refine HCO.mono ?_
     rintro e w3 ⟨hn2,hk2⟩
     obtain⟨rfl,hc3,hst⟩:=hn2.ok
     have HBB:Hid (BkP w3 b O (.sym last lit dist)):=hid (HBW2.out.kept hk2 (fun j hj e=>HO.out j hj (.inl e)) hbpn)
     have HC2:Hid (c3≤8*bs.length):=hc3
     have HST:Hid (St w3 p s bs c3):=hst
     have HKE:Hid (Kept (fun j=>j=p∨j=b) w w3):=hid (HK2.out.trans hk2 (fun _ _ h=>h) (fun _ _ h=>.inl h))
     have HBE:Hid (Blk w3 w.heap.size tok0 33):=hid (HBK2.out.kept hk2 (by omega))
     have fz0:w3.frozen? ⟨w.heap.size,0,none⟩=false:=HBE.out.frozen 0
     have fz1:w3.frozen? ⟨w.heap.size,1,none⟩=false:=HBE.out.frozen 1
     have fz2:w3.frozen? ⟨w.heap.size,2,none⟩=false:=HBE.out.frozen 2
     have cz0:w3.cell? ⟨w.heap.size,0,none⟩=some (.int .u8 0):=HBE.out.cell 0
     have cz1:w3.cell? ⟨w.heap.size,1,none⟩=some (.int .i64 0):=HBE.out.cell 1
     have cz2:w3.cell? ⟨w.heap.size,2,none⟩=some (.int .i64 0):=HBE.out.cell 2
     clear hst hk2 hn2 HCO hc3
     go_wp2_with fail
     have HKF:Hid (Kept (·=w.heap.size) w3 ((((((w3.setCell ⟨w.heap.size,0,none⟩ (.int .u8 0)).setCell ⟨w.heap.size,1,none⟩ (.int .i64 (n:Nat))).setCell ⟨w.heap.size,2,none⟩ (.int .i64 (far:Nat))).setCell ⟨w.heap.size,0,none⟩ (.int .u8 0)).setCell ⟨w.heap.size,1,none⟩ (.int .i64 (n:Nat))).setCell ⟨w.heap.size,2,none⟩ (.int .i64 (far:Nat)))):=hid (((((((Kept.refl (·=w.heap.size) w3).setCell ⟨w.heap.size,0,none⟩ _ (.inl rfl)).setCell ⟨w.heap.size,1,none⟩ _ (.inl rfl)).setCell ⟨w.heap.size,2,none⟩ _ (.inl rfl)).setCell ⟨w.heap.size,0,none⟩ _ (.inl rfl)).setCell ⟨w.heap.size,1,none⟩ _ (.inl rfl)).setCell ⟨w.heap.size,2,none⟩ _ (.inl rfl))
     have HBF:Blk ((((((w3.setCell ⟨w.heap.size,0,none⟩ (.int .u8 0)).setCell ⟨w.heap.size,1,none⟩ (.int .i64 (n:Nat))).setCell ⟨w.heap.size,2,none⟩ (.int .i64 (far:Nat))).setCell ⟨w.heap.size,0,none⟩ (.int .u8 0)).setCell ⟨w.heap.size,1,none⟩ (.int .i64 (n:Nat))).setCell ⟨w.heap.size,2,none⟩ (.int .i64 (far:Nat))) w.heap.size #[.int .u8 0,.int .i64 (n:Nat),.int .i64 (far:Nat)] 33:=by
      have:=((((((HBE.out.set 0 (.int .u8 0)).set 1 (.int .i64 (n:Nat))).set 2 (.int .i64 (far:Nat))).set 0 (.int .u8 0)).set 1 (.int .i64 (n:Nat))).set 2 (.int .i64 (far:Nat)))
      simpa using this
     have g0:=HBF.cell 0
     have g1:=HBF.cell 1
     have g2:=HBF.cell 2
     generalize (((((w3.setCell ⟨w.heap.size,0,none⟩ (.int .u8 0)).setCell ⟨w.heap.size,1,none⟩ (.int .i64 (n:Nat))).setCell ⟨w.heap.size,2,none⟩ (.int .i64 (far:Nat))).setCell ⟨w.heap.size,0,none⟩ (.int .u8 0)).setCell ⟨w.heap.size,1,none⟩ (.int .i64 (n:Nat))).setCell ⟨w.heap.size,2,none⟩ (.int .i64 (far:Nat))=wF at *
     simp at g0 g1 g2
     refine bodyPost_ret (v:=.tuple #[.agg #[.int .u8 0,.int .i64 (n:Nat),.int .i64 (far:Nat)],.bool false,.int .i64 0]) (by simp[results,Tryz.results75,go_sem,g0,g1,g2]) rfl ?_
     refine⟨?_,Kept.trans HKE.out HKF.out (fun _ _ h=>h) (fun j hj e=>by omega)⟩
     rw[HE.out]
     exact⟨rfl,HBB.out.kept HKF.out (fun j hj e=>by have:=HOL.out j hj;omega) (by omega),HC2.out,HST.out.kept HKF.out (fun j h e=>by have:=HP.out j h;omega)⟩

end Go.Proofs.YtggcbnhckcenmaaGreatDoor
