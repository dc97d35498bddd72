import Derived.Test.YtkhagfgineifhaaGreatDoorCopyK
import Derived.Test.YtkhagfgineifhaaGreatDoorLnRef
import Derived.Laws.Bits64b
set_option maxHeartbeats 2000000
set_option maxRecDepth 100000
namespace Go.Proofs.YtkhagfgineifhaaGreatDoor
open Go.RowKit
theorem Dr(w:World)(n:Nat)(hn:n≤1000000):
  Calls Tryz.prog 177 #[.int .u64 1,.int .u64 (n:Nat)] w λe w'=>e=.returned (.tuple #[.int .u64 0,.int .u64 (n:Nat)])/\w'=w:=by
 have h1:bits .and .u64 1 4294967295=1:=by decide
 have h2:bits .and .u64 (n:Int) 4294967295=(n:Int):=by have h:=bits_and_u64_nat n 4294967295 (by omega) (by omega);have e:n &&& 4294967295=n % 4294967296:=Nat.and_two_pow_sub_one_eq_mod n 32;rw[e,Nat.mod_eq_of_lt (by omega)]at h;exact h
 have h3:(n:Int) / 4294967296=0:=by omega
 have h4:IntKind.u64.wrap (n:Int)=(n:Int):=by rw[IntKind.wrap_u64];omega
 have h5:bits .and .u64 0 4294967295=0:=by decide
 go_enter Tryz.func177,Tryz.ntmps177;go_wp2_with fail;go_ret2;exact⟨rfl,rfl⟩
theorem mul_one(w:World)(n:Nat)(hn:n≤1000000):
  Calls Tryz.prog 148 #[.int .u64 1,.int .u64 (n:Nat)] w λe w'=>e=.returned (.tuple #[.int .u64 0,.int .u64 (n:Nat)])/\w'=w:=by
 have HC:=Dr w n hn;go_enter Tryz.func148,Tryz.ntmps148;go_wp2_with fail;refine HC.mono ?_;rintro e w1 ⟨rfl,hw1⟩;subst hw1;clear HC;go_wp2_with fail;go_ret2;exact⟨rfl,rfl⟩
theorem iu{α:Type}{enc:α→List Value}{k:Nat}(ok:dJ enc k)(x y:α)(n m N:Nat)(h:n+m≤N):
  splice ((List.replicate n x++List.replicate (N-n) y).flatMap enc) (n*k) ((List.replicate m x).flatMap enc)=(List.replicate (n+m) x++List.replicate (N-(n+m)) y).flatMap enc:=by
 have e1:((List.replicate n x).flatMap enc).length=n*k:=by rw[aK ok,List.length_replicate]
 have e2:((List.replicate m x).flatMap enc).length=m*k:=by rw[aK ok,List.length_replicate]
 have e3:List.replicate (N-n) y=List.replicate m y++List.replicate (N-(n+m)) y:=by rw[List.replicate_append_replicate];congr 1;omega
 have e4:((List.replicate m y).flatMap enc).length=m*k:=by rw[aK ok,List.length_replicate]
 unfold splice;rw[List.flatMap_append,e2,List.take_append_of_le_length (by omega),List.take_of_length_le (by omega),List.drop_append,List.drop_eq_nil_of_le (by omega),e1,List.nil_append,Nat.add_sub_cancel_left,e3,List.flatMap_append,<-e4,List.drop_left,<-List.append_assoc,<-List.flatMap_append,List.replicate_append_replicate,<-List.flatMap_append]
theorem lI{α:Type}{enc:α->List Value}{k:Nat}(ok:dJ enc k)(x y:α)(n m N:Nat)(h:m<=n):((List.replicate n x++List.replicate N y).flatMap enc).take (m*k)=(List.replicate m x).flatMap enc:=by
 have e1:List.replicate n x=List.replicate m x++List.replicate (n-m) x:=by rw[List.replicate_append_replicate];congr 1;omega
 have e2:((List.replicate m x).flatMap enc).length=m*k:=by rw[aK ok,List.length_replicate]
 rw[e1,List.append_assoc,List.flatMap_append,<-e2,List.take_left]
def fL(n:Nat):List Value:=[am n]
theorem natL_ok:dJ fL 1:=⟨λ_=>rfl,λx u hu=>by simp[fL]at hu;subst hu;rfl,by decide⟩
theorem sM(xs:List Nat):xs.flatMap fL=xs.map am:=by
 induction xs with
 | nil=>rfl
 | cons a r ih=>rw[List.flatMap_cons,ih];rfl
theorem Tryz.infoSt1:(Tryz.prog.info? 226).map (·.size)=some 2:=by kernel_rfl
theorem Tryz.infoN1:(Tryz.prog.info? 3).map (·.size)=some 1:=by kernel_rfl
theorem oM(w:World)(ad:Addr)(y:Int×Int)(N:Nat)(hx:aS w ad (km y))(hN:N≤1000):
  Calls Tryz.prog 187 #[.slice (some ad) 1 1,.int .i64 (N:Nat)] w λe w'=>∃g,e=.returned (.slice (some ⟨g,0,none⟩) N N)/\RowC w.heap.size 226 2 km w' (.slice (some ⟨g,0,none⟩) N N) (List.replicate N y)/\Same w w':=by
 have HMU:=mul_one w N (by omega);have HX:Hid (aS w ad (km y)):=hx;have ie:ad.block<w.heap.size:=by have h0:=hx 0;have hl:=stC_ok.len y;rw[List.getElem?_eq_getElem (by rw[hl];decide)]at h0;have:=World.block_lt_of_cell? w _ (h0 _ rfl);unfold Addr.add at this;split at this<;>simpa using this
 have VV:Hid (ad.block<w.heap.size):=ie;have Wd:wrap64 (N:Int)=(N:Int):=by unfold wrap64;omega
 have Wy:IntKind.u64.wrap (N:Int)=(N:Int):=by rw[IntKind.wrap_u64];omega
 clear hx ie;obtain⟨m,hm⟩:∃m,m=Nat.min 1 N:=⟨_,rfl⟩
 have hm1:m<=1:=by rw[hm];exact Nat.min_le_left _ _
 have PS:m<=N:=by rw[hm];exact Nat.min_le_right _ _
 have yN:0<m\/N=0:=by
  rw[hm];rcases Nat.eq_zero_or_pos N with h | h
  ·exact .inr h
  ·exact .inl (Nat.lt_min.2 ⟨by decide,h⟩)
 have HM:Hid (Nat.min 1 N=m):=hid hm.symm;clear hm;have HE0:Hid (((List.replicate m y).flatMap km).length=m*2):=hid (by rw[aK stC_ok,List.length_replicate]);have HCS0:Hid (∀w2,Same w w2->0<((List.replicate m y).flatMap km).length->∃a,some ad=some a/\aS w2 a ((List.replicate m y).flatMap km)):=hid (λw2 hk h=>by
  refine⟨ad,rfl,λj u hu=>hk.cell (HX.out j u ?_) (λf=>f)⟩;have:m=1:=by
   rcases Nat.eq_zero_or_pos m with e | e
   ·subst e;simp at h
   ·omega
  subst this;simpa using hu)
 go_enter Tryz.func187,Tryz.ntmps187;go_wp2_with fail;refine HMU.mono ?_;rintro e w1 ⟨rfl,hw1⟩;subst hw1;clear HMU;go_wp2_with (first | (at_make;refine ly _ km 2 stC_ok (0,0) w1.heap.size 180 226 (.agg #[.int .i64 0,.int .i64 0]) 16 Tryz.underlying180 Tryz.infoSt rfl (by decide) rfl _ _ rfl _ _ _ _ N rfl rfl rfl rfl (by omega) (Nat.le_refl _) ?_;intro w2 hr2 nN hs2;have HR2:Hid (Raw w2 w1.heap.size 226 ((List.replicate N (0,0)).flatMap km)):=hid hr2.raw;have HK2:Hid (Same w1 w2):=hid ((Kept.refl _ w1).grown nN (λj e=>by cases e));clear hr2 nN) | (with_reducible refine oy ?_;refine lB _ rfl (.tmp 31) (.tmp 32) 180 180 rfl 226 2 Tryz.underlying180 Tryz.infoSt1 w1.heap.size 0 N N (some ad) 1 1 rfl rfl _ 226 HR2.out ((List.replicate m y).flatMap km) (by rw[HM.out];exact HE0.out) (HCS0.out _ HK2.out) (by decide) (by rw[HE0.out,aK stC_ok,List.length_replicate,Nat.zero_add];exact Nat.mul_le_mul_right _ PS) (gM stC_ok _) m HM.out ?_;intro w3 hr3 jW;have HR3:Hid (Raw w3 w1.heap.size 226 ((List.replicate m y++List.replicate (N-m) (0,0)).flatMap km)):=hid (by have h:=iu stC_ok y (0,0) 0 m N (by omega);simp only[List.replicate_zero,List.nil_append,Nat.sub_zero,Nat.zero_mul,Nat.zero_add]at h;rw[<-h];exact hr3);have HK3:Hid (Same w1 w3):=hid (HK2.out.grown jW (λj e=>.inr (by injection e with e;omega)));clear hr3 jW));go_loopg [8] N (λq z wr=>∃(n:Nat),N-n<=q/\n<=N/\(0<n\/N=0)/\z=.int .i64 (n:Nat)/\Hid (Raw wr w1.heap.size 226 ((List.replicate n y++List.replicate (N-n) (0,0)).flatMap km))/\Hid (Same w1 wr))
 case atStart=>exact⟨m,by omega,by omega,yN,rfl,HR3,HK3⟩
 case round=>
  clear HR2 HK2 HR3 HK3 hm1 PS yN;obtain⟨n,hq,hn,nG,rfl,HR,HK⟩:=hrel;by_cases hlt:n<N
  ·obtain⟨j,hj⟩:∃j,j=Nat.min n (N-n):=⟨_,rfl⟩
   have OJ:j<=n:=(by rw[hj];exact Nat.min_le_left _ _);have SC:j<=N-n:=(by rw[hj];exact Nat.min_le_right _ _);have QC:0<j:=(by rw[hj];exact Nat.lt_min.2 ⟨by omega,by omega⟩);have HJ:Hid (Nat.min n (N-n)=j):=hid hj.symm;clear hj;obtain⟨t,ht⟩:∃t,t=n+j:=⟨_,rfl⟩
   have htI:(n:Int)+(j:Int)=(t:Int):=(by omega);have S8:IntKind.i64.wrap (t:Int)=(t:Int):=(by rw[IntKind.wrap_i64];omega);have Rz:t<=N:=(by omega);have TI:n<t:=(by omega);have HT:Hid (t=n+j):=ht;have HE1:Hid (((List.replicate j y).flatMap km).length=j*2):=hid (by rw[aK stC_ok,List.length_replicate]);have HA1:Hid (aS wr ⟨w1.heap.size,0,none⟩ ((List.replicate j y).flatMap km)):=hid (by rw[<-lI stC_ok y (0,0) n j (N-n) OJ];exact HR.out.at _);have HF1:Hid (n*2+((List.replicate j y).flatMap km).length<=((List.replicate n y++List.replicate (N-n) (0,0)).flatMap km).length):=hid (by rw[HE1.out,aK stC_ok,List.length_append,List.length_replicate,List.length_replicate,<-Nat.add_mul];exact Nat.mul_le_mul_right _ (by omega));have V2:¬N=n:=(by omega);clear ht SC QC;go_wp2_with fail;go_region_law (refine oR rfl (.tmp 41) (.tmp 44) 180 180 rfl 226 2 Tryz.underlying180 Tryz.infoSt1 w1.heap.size (n*2) (N-n) (N-n) ⟨w1.heap.size,0,none⟩ n N (by simp[Act.eval,Act.put]) (by simp[Act.eval,Act.put]) _ 226 HR.out ((List.replicate j y).flatMap km) (by rw[HJ.out];exact HE1.out) HA1.out HF1.out (gM stC_ok _) j HJ.out ?_;intro w4 hr4 pO)
   all_goals
    have HR4:Hid (Raw w4 w1.heap.size 226 ((List.replicate t y++List.replicate (N-t) (0,0)).flatMap km)):=hid (by have h:=iu stC_ok y (0,0) n j N (by have:=HT.out;omega);rw[<-HT.out]at h;rw[<-h];exact hr4);have HK4:Hid (Same w1 w4):=hid (HK.out.drew.grown pO (λi e=>.inr (by injection e with e;omega)));clear hr4 pO;go_wp2_with fail;go_roundg (gk-1)
    case measure=>omega
    case rel=>exact⟨t,by omega,Rz,.inl (by omega),rfl,HR4,HK4⟩
  ·have O3:n=N:=(by omega);have HR4:Hid (Raw wr w1.heap.size 226 ((List.replicate N y).flatMap km)):=hid (by have h:=HR.out;rw[O3,Nat.sub_self]at h;simpa using h);clear O3 HR;go_wp2_with fail;go_ret;refine⟨_,rfl,?_,HK.out⟩;have h:=HR4.out.row (B:=w1.heap.size) stC_ok (Nat.le_refl _) (by simp[maxLen];omega);rw[List.length_replicate]at h;exact h
theorem iv(w:World)(ad:Addr)(y:Nat)(N:Nat)(hx:aS w ad (fL y))(hN:N≤1000):
  Calls Tryz.prog 121 #[.slice (some ad) 1 1,.int .i64 (N:Nat)] w λe w'=>∃g,e=.returned (.slice (some ⟨g,0,none⟩) N N)/\RowC w.heap.size 3 1 fL w' (.slice (some ⟨g,0,none⟩) N N) (List.replicate N y)/\Same w w':=by
 have HMU:=mul_one w N (by omega);have HX:Hid (aS w ad (fL y)):=hx;have ie:ad.block<w.heap.size:=by have h0:=hx 0;have hl:=natL_ok.len y;rw[List.getElem?_eq_getElem (by rw[hl];decide)]at h0;have:=World.block_lt_of_cell? w _ (h0 _ rfl);unfold Addr.add at this;split at this<;>simpa using this
 have VV:Hid (ad.block<w.heap.size):=ie;have Wd:wrap64 (N:Int)=(N:Int):=by unfold wrap64;omega
 have Wy:IntKind.u64.wrap (N:Int)=(N:Int):=by rw[IntKind.wrap_u64];omega
 clear hx ie;obtain⟨m,hm⟩:∃m,m=Nat.min 1 N:=⟨_,rfl⟩
 have hm1:m<=1:=by rw[hm];exact Nat.min_le_left _ _
 have PS:m<=N:=by rw[hm];exact Nat.min_le_right _ _
 have yN:0<m\/N=0:=by
  rw[hm];rcases Nat.eq_zero_or_pos N with h | h
  ·exact .inr h
  ·exact .inl (Nat.lt_min.2 ⟨by decide,h⟩)
 have HM:Hid (Nat.min 1 N=m):=hid hm.symm;clear hm;have HE0:Hid (((List.replicate m y).flatMap fL).length=m*1):=hid (by rw[aK natL_ok,List.length_replicate]);have HCS0:Hid (∀w2,Same w w2->0<((List.replicate m y).flatMap fL).length->∃a,some ad=some a/\aS w2 a ((List.replicate m y).flatMap fL)):=hid (λw2 hk h=>by
  refine⟨ad,rfl,λj u hu=>hk.cell (HX.out j u ?_) (λf=>f)⟩;have:m=1:=by
   rcases Nat.eq_zero_or_pos m with e | e
   ·subst e;simp at h
   ·omega
  subst this;simpa using hu)
 go_enter Tryz.func121,Tryz.ntmps121;go_wp2_with fail;refine HMU.mono ?_;rintro e w1 ⟨rfl,hw1⟩;subst hw1;clear HMU;go_wp2_with (first | (at_make;refine ly _ fL 1 natL_ok 0 w1.heap.size 143 3 (.int .i64 0) 8 Tryz.underlying143 Tryz.infoN rfl (by decide) rfl _ _ rfl _ _ _ _ N rfl rfl rfl rfl (by omega) (Nat.le_refl _) ?_;intro w2 hr2 nN hs2;have HR2:Hid (Raw w2 w1.heap.size 3 ((List.replicate N 0).flatMap fL)):=hid hr2.raw;have HK2:Hid (Same w1 w2):=hid ((Kept.refl _ w1).grown nN (λj e=>by cases e));clear hr2 nN) | (with_reducible refine oy ?_;refine lB _ rfl (.tmp 31) (.tmp 32) 143 143 rfl 3 1 Tryz.underlying143 Tryz.infoN1 w1.heap.size 0 N N (some ad) 1 1 rfl rfl _ 3 HR2.out ((List.replicate m y).flatMap fL) (by rw[HM.out];exact HE0.out) (HCS0.out _ HK2.out) (by decide) (by rw[HE0.out,aK natL_ok,List.length_replicate,Nat.zero_add];exact Nat.mul_le_mul_right _ PS) (gM natL_ok _) m HM.out ?_;intro w3 hr3 jW;have HR3:Hid (Raw w3 w1.heap.size 3 ((List.replicate m y++List.replicate (N-m) 0).flatMap fL)):=hid (by have h:=iu natL_ok y 0 0 m N (by omega);simp only[List.replicate_zero,List.nil_append,Nat.sub_zero,Nat.zero_mul,Nat.zero_add]at h;rw[<-h];exact hr3);have HK3:Hid (Same w1 w3):=hid (HK2.out.grown jW (λj e=>.inr (by injection e with e;omega)));clear hr3 jW));go_loopg [8] N (λq z wr=>∃(n:Nat),N-n<=q/\n<=N/\(0<n\/N=0)/\z=.int .i64 (n:Nat)/\Hid (Raw wr w1.heap.size 3 ((List.replicate n y++List.replicate (N-n) 0).flatMap fL))/\Hid (Same w1 wr))
 case atStart=>exact⟨m,by omega,by omega,yN,rfl,HR3,HK3⟩
 case round=>
  clear HR2 HK2 HR3 HK3 hm1 PS yN;obtain⟨n,hq,hn,nG,rfl,HR,HK⟩:=hrel;by_cases hlt:n<N
  ·obtain⟨j,hj⟩:∃j,j=Nat.min n (N-n):=⟨_,rfl⟩
   have OJ:j<=n:=(by rw[hj];exact Nat.min_le_left _ _);have SC:j<=N-n:=(by rw[hj];exact Nat.min_le_right _ _);have QC:0<j:=(by rw[hj];exact Nat.lt_min.2 ⟨by omega,by omega⟩);have HJ:Hid (Nat.min n (N-n)=j):=hid hj.symm;clear hj;obtain⟨t,ht⟩:∃t,t=n+j:=⟨_,rfl⟩
   have htI:(n:Int)+(j:Int)=(t:Int):=(by omega);have S8:IntKind.i64.wrap (t:Int)=(t:Int):=(by rw[IntKind.wrap_i64];omega);have Rz:t<=N:=(by omega);have TI:n<t:=(by omega);have HT:Hid (t=n+j):=ht;have HE1:Hid (((List.replicate j y).flatMap fL).length=j*1):=hid (by rw[aK natL_ok,List.length_replicate]);have HA1:Hid (aS wr ⟨w1.heap.size,0,none⟩ ((List.replicate j y).flatMap fL)):=hid (by rw[<-lI natL_ok y 0 n j (N-n) OJ];exact HR.out.at _);have HF1:Hid (n*1+((List.replicate j y).flatMap fL).length<=((List.replicate n y++List.replicate (N-n) 0).flatMap fL).length):=hid (by rw[HE1.out,aK natL_ok,List.length_append,List.length_replicate,List.length_replicate,<-Nat.add_mul];exact Nat.mul_le_mul_right _ (by omega));have V2:¬N=n:=(by omega);clear ht SC QC;go_wp2_with fail;go_region_law (refine oR rfl (.tmp 41) (.tmp 44) 143 143 rfl 3 1 Tryz.underlying143 Tryz.infoN1 w1.heap.size (n*1) (N-n) (N-n) ⟨w1.heap.size,0,none⟩ n N (by simp[Act.eval,Act.put]) (by simp[Act.eval,Act.put]) _ 3 HR.out ((List.replicate j y).flatMap fL) (by rw[HJ.out];exact HE1.out) HA1.out HF1.out (gM natL_ok _) j HJ.out ?_;intro w4 hr4 pO)
   all_goals
    have HR4:Hid (Raw w4 w1.heap.size 3 ((List.replicate t y++List.replicate (N-t) 0).flatMap fL)):=hid (by have h:=iu natL_ok y 0 n j N (by have:=HT.out;omega);rw[<-HT.out]at h;rw[<-h];exact hr4);have HK4:Hid (Same w1 w4):=hid (HK.out.drew.grown pO (λi e=>.inr (by injection e with e;omega)));clear hr4 pO;go_wp2_with fail;go_roundg (gk-1)
    case measure=>omega
    case rel=>exact⟨t,by omega,Rz,.inl (by omega),rfl,HR4,HK4⟩
  ·have O3:n=N:=(by omega);have HR4:Hid (Raw wr w1.heap.size 3 ((List.replicate N y).flatMap fL)):=hid (by have h:=HR.out;rw[O3,Nat.sub_self]at h;simpa using h);clear O3 HR;go_wp2_with fail;go_ret;refine⟨_,rfl,?_,HK.out⟩;have h:=HR4.out.row (B:=w1.heap.size) natL_ok (Nat.le_refl _) (by simp[maxLen];omega);rw[List.length_replicate]at h;exact h
end Go.Proofs.YtkhagfgineifhaaGreatDoor
