import Derived.Laws.BitsAllLaws
import Derived.Test.YtllcnlnbpikhdaaGreatDoorJ7
import Derived.Test.YtllcnlnbpikhdaaGreatDoorJ6
set_option maxHeartbeats 2000000
set_option maxRecDepth 100000
namespace Go.Proofs.YtllcnlnbpikhdaaGreatDoor
open Go.RowKit
def sw(s m x:Nat):Nat:=(x / 2 ^ s &&& m) ||| ((x &&& m)*2 ^ s % 4294967296)
def tI(s i:Nat):Nat:=if i % (2*s)<s then i+s else i-s
theorem tq(s m x i:Nat)(hi:i<32)(hs:s=1\/s=2\/s=4\/s=8)(hm:∀j,j<32->m.testBit j=decide (j % (2*s)<s)):(sw s m x).testBit i=x.testBit (tI s i):=by
 unfold sw tI;rw[Nat.testBit_or,Nat.testBit_and,Nat.testBit_div_two_pow,show(4294967296:Nat)=2 ^ 32 by rfl,Nat.testBit_mod_two_pow,Nat.testBit_mul_two_pow,Nat.testBit_and,hm i hi];by_cases h:i % (2*s)<s
 ·have h2:¬(s<=i/\(i-s) % (2*s)<s):=by rcases hs with rfl | rfl | rfl | rfl<;>omega
  by_cases h3:s<=i
  ·rw[hm (i-s) (by omega)];have h4:¬(i-s) % (2*s)<s:=λh=>h2 ⟨h3,h⟩
   simp[h,h4]
  ·simp[h,h3]
 ·have h2:s<=i/\(i-s) % (2*s)<s:=by rcases hs with rfl | rfl | rfl | rfl<;>omega
  rw[hm (i-s) (by omega)];simp[h,h2.1,h2.2,hi]
theorem jB(s m x:Nat)(hx:x<4294967296):sw s m x<4294967296:=by
 unfold sw;rw[show(4294967296:Nat)=2 ^ 32 by rfl]at *
 refine Nat.or_lt_two_pow ?_ (Nat.mod_lt _ (by decide));exact Nat.lt_of_le_of_lt Nat.and_le_left (Nat.lt_of_le_of_lt (Nat.div_le_self _ _) hx)
def tV(x:Nat):Nat:=x / 2 ^ 16 ||| x*2 ^ 16 % 4294967296
theorem GP(x i:Nat)(hi:i<32)(hx:x<4294967296):(tV x).testBit i=x.testBit (if i<16 then i+16 else i-16):=by
 unfold tV;rw[Nat.testBit_or,Nat.testBit_div_two_pow,show(4294967296:Nat)=2 ^ 32 by rfl,Nat.testBit_mod_two_pow,Nat.testBit_mul_two_pow];by_cases h:i<16
 ·simp[h,show ¬16<=i by omega]
 ·have hz:x.testBit (i+16)=false:=Nat.testBit_lt_two_pow (Nat.lt_of_lt_of_le hx (Nat.pow_le_pow_right (n:=2) (by omega) (show 32<=i+16 by omega)));simp[h,show 16<=i by omega,hi,hz]
def jA(x:Nat):Nat:=tV (sw 8 16711935 (sw 4 252645135 (sw 2 858993459 (sw 1 1431655765 x))))
theorem CZ(x i:Nat)(hi:i<32)(hx:x<4294967296):(jA x).testBit i=x.testBit (31-i):=by
 unfold jA;have e:∀i,i<32->tI 1 (tI 2 (tI 4 (tI 8 (if i<16 then i+16 else i-16))))=31-i:=by decide
 have l0:∀i,i<32->(if i<16 then i+16 else i-16)<32:=by decide
 have l8:∀i,i<32->tI 8 i<32:=by decide
 have l4:∀i,i<32->tI 4 i<32:=by decide
 have l2:∀i,i<32->tI 2 i<32:=by decide
 rw[GP _ i hi (jB _ _ _ (jB _ _ _ (jB _ _ _ (jB _ _ _ hx)))),
  tq 8 _ _ _ (l0 i hi) (by omega) (by decide),tq 4 _ _ _ (l8 _ (l0 i hi)) (by omega) (by decide),tq 2 _ _ _ (l4 _ (l8 _ (l0 i hi))) (by omega) (by decide),
  tq 1 _ _ _ (l2 _ (l4 _ (l8 _ (l0 i hi)))) (by omega) (by decide),e i hi]
theorem IK(x:Nat)(hx:x<4294967296):tV x<4294967296:=by
 unfold tV;rw[show(4294967296:Nat)=2 ^ 32 by rfl]at *
 exact Nat.or_lt_two_pow (Nat.lt_of_le_of_lt (Nat.div_le_self _ _) hx) (Nat.mod_lt _ (by decide))
theorem ww(x:Nat)(hx:x<4294967296):jA x<4294967296:=IK _ (jB _ _ _ (jB _ _ _ (jB _ _ _ (jB _ _ _ hx))))
def rv:Nat->Nat->Nat
 | 0,_=>0
 | n+1,c=>c % 2*2 ^ n+rv n (c / 2)
theorem EM(n c:Nat):rv n c<2 ^ n:=by
 induction n generalizing c with
 | zero=>simp[rv]
 | succ n ih=>
  have h1:=ih (c / 2);have h2:c % 2*2 ^ n<=1*2 ^ n:=Nat.mul_le_mul_right _ (by omega);simp only[rv,Nat.pow_succ];omega
theorem gO(n c k:Nat):(rv n c).testBit k=(decide (k<n) && c.testBit (n-1-k)):=by
 induction n generalizing c k with
 | zero=>simp[rv]
 | succ n ih=>
  simp only[rv];rw[Nat.mul_comm,Nat.testBit_two_pow_mul_add _ (EM n (c / 2)),ih];by_cases h:k<n
  ·rw[if_pos h,Nat.testBit_div_two];simp[h,show k<n+1 by omega,show n-1-k+1=n-k by omega]
  ·rw[if_neg h];by_cases h2:k=n
   ·subst h2;simp[Nat.testBit_zero]
   ·have:(c % 2).testBit (k-n)=false:=Nat.testBit_lt_two_pow (Nat.lt_of_lt_of_le (Nat.mod_lt _ (by decide)) (by
     have:=Nat.pow_le_pow_right (n:=2) (by omega) (show 1<=k-n by omega);omega))
    rw[this];simp;omega
theorem Fb(x n:Nat)(hx:x<4294967296)(hn:n<=32):jA x / 2 ^ (32-n)=rv n x:=by
 refine Nat.eq_of_testBit_eq (λk=>?_);rw[Nat.testBit_div_two_pow,gO];by_cases h:k<n
 ·rw[CZ x _ (by omega) hx];simp[h,show 31-(k+(32-n))=n-1-k by omega]
 ·have:(jA x).testBit (k+(32-n))=false:=Nat.testBit_lt_two_pow (Nat.lt_of_lt_of_le (ww x hx) (Nat.pow_le_pow_right (n:=2) (by omega) (show 32<=k+(32-n)by omega)));rw[this];simp[h]
theorem tu(s m x:Nat)(hx:x<4294967296)(hm:m<4294967296)(_hs:s≤8):
  bits .or .u32 (bits .and .u32 ((x:Int) / 2 ^ s) (m:Int)) (bits .and .u32 (x:Int) (m:Int)*2 ^ s % 4294967296)=((sw s m x:Nat):Int):=by
 have e1:((x:Int) / 2 ^ s)=((x / 2 ^ s:Nat):Int):=by simp
 have hd:x / 2 ^ s<4294967296:=Nat.lt_of_le_of_lt (Nat.div_le_self _ _) hx;rw[e1,u32_and_nat _ _ hd hm,u32_and_nat _ _ hx hm];have e2:((x &&& m:Nat):Int)*2 ^ s % 4294967296=(((x &&& m)*2 ^ s % 4294967296:Nat):Int):=by simp
 rw[e2,u32_or_nat _ _ (Nat.lt_of_le_of_lt Nat.and_le_left hd) (Nat.mod_lt _ (by decide))];rfl
theorem tP(w:World)(x:Nat)(hx:x<4294967296):Calls Tryz.prog 188 #[.int .u32 (x:Nat)] w λe w'=>e=.returned (.int .u32 ((tV (sw 8 16711935 x):Nat):Int))/\w'=w:=by
 obtain⟨y,hy⟩:∃y,y=sw 8 16711935 x:=⟨_,rfl⟩
 have AF:y<4294967296:=by rw[hy];exact jB 8 16711935 x hx
 have e1:bits .or .u32 (bits .and .u32 ((x:Int) / 256) 16711935) (bits .and .u32 (x:Int) 16711935*256 % 4294967296)=(y:Int):=by have h:=tu 8 16711935 x hx (by decide) (by decide);rw[<-hy]at h;exact h
 have e2:bits .or .u32 ((y:Int) / 65536) ((y:Int)*65536 % 4294967296)=((tV y:Nat):Int):=by have d1:(y:Int) / 65536=((y / 2 ^ 16:Nat):Int):=(by omega);have d2:(y:Int)*65536 % 4294967296=((y*2 ^ 16 % 4294967296:Nat):Int):=(by omega);rw[d1,d2,u32_or_nat _ _ (Nat.lt_of_le_of_lt (Nat.div_le_self _ _) AF) (Nat.mod_lt _ (by decide))];rfl
 have HY:Hid (y=sw 8 16711935 x):=hy;clear hy AF hx;go_enter Tryz.func188,Tryz.ntmps188;go_wp2_with fail;go_ret;exact⟨by rw[<-HY.out];rfl,rfl⟩
theorem wT(w:World)(x:Nat)(hx:x<4294967296):Calls Tryz.prog 168 #[.int .u32 (x:Nat)] w λe w'=>e=.returned (.int .u32 ((jA x:Nat):Int))/\w'=w:=by
 obtain⟨y,hy⟩:∃y,y=sw 1 1431655765 x:=⟨_,rfl⟩
 have AF:y<4294967296:=by rw[hy];exact jB 1 1431655765 x hx
 obtain⟨z,hz⟩:∃z,z=sw 2 858993459 y:=⟨_,rfl⟩
 have NR:z<4294967296:=by rw[hz];exact jB 2 858993459 y AF
 obtain⟨t,ht⟩:∃t,t=sw 4 252645135 z:=⟨_,rfl⟩
 have MU:t<4294967296:=by rw[ht];exact jB 4 252645135 z NR
 have e1:bits .or .u32 (bits .and .u32 ((x:Int) / 2) 1431655765) (bits .and .u32 (x:Int) 1431655765*2 % 4294967296)=(y:Int):=by have h:=tu 1 1431655765 x hx (by decide) (by decide);rw[<-hy]at h;exact h
 have e2:bits .or .u32 (bits .and .u32 ((y:Int) / 4) 858993459) (bits .and .u32 (y:Int) 858993459*4 % 4294967296)=(z:Int):=by have h:=tu 2 858993459 y AF (by decide) (by decide);rw[<-hz]at h;exact h
 have e3:bits .or .u32 (bits .and .u32 ((z:Int) / 16) 252645135) (bits .and .u32 (z:Int) 252645135*16 % 4294967296)=(t:Int):=by have h:=tu 4 252645135 z NR (by decide) (by decide);rw[<-ht]at h;exact h
 have HC:=tP w t MU;have HV:Hid (jA x=tV (sw 8 16711935 t)):=hid (by rw[jA,<-hy,<-hz,<-ht]);generalize tV (sw 8 16711935 t)=r at HC HV;clear hy hz ht AF NR MU hx;go_enter Tryz.func168,Tryz.ntmps168;go_wp2_with fail;refine HC.mono ?_;rintro e w2 ⟨rfl,rfl⟩;clear HC;go_wp2_with fail;go_ret;exact⟨by rw[HV.out];rfl,rfl⟩
def uk(ns:List Nat)(s:Nat):Nat:=ep (key ns s)
def ia(ns:List Nat)(s:Nat):Nat:=(((aD ns).filter (λt=>decide (Lt ns t s))).map (uk ns)).sum
def b6(ns:List Nat)(k:Nat):Nat:=(((aD ns).take k).map (uk ns)).sum
theorem jg(ns:List Nat)(k:Nat)(h:k<(aD ns).length):b6 ns (k+1)=b6 ns k+uk ns (aD ns)[k]:=by unfold b6;rw[List.take_succ_eq_append_getElem h,List.map_append,List.sum_append];simp only[List.map_cons,List.map_nil,List.sum_cons,List.sum_nil,Nat.add_zero]
theorem kd(ns:List Nat)(k:Nat)(h:k<(aD ns).length):ia ns (aD ns)[k]=b6 ns k:=by
 unfold ia b6;congr 2;have hs:=gH ns;have Ly:(aD ns)=(aD ns).take k++(aD ns)[k]::(aD ns).drop (k+1):=by rw[<-List.drop_eq_getElem_cons h,List.take_append_drop]
 generalize (aD ns)[k]=x at *
 generalize hA:(aD ns).take k=A at *
 generalize (aD ns).drop (k+1)=B at *
 rw[Ly]at hs ⊢;rw[List.filter_append,List.filter_cons_of_neg (by simp[Lt.irrefl])];have h1:A.filter (λt=>decide (Lt ns t x))=A:=List.filter_eq_self.2 (λa ha=>by simpa using Sorted.cross hs a ha x (by simp));have h2:B.filter (λt=>decide (Lt ns t x))=[]:=List.filter_eq_nil_iff.2 (λb hb=>by
  have:=(List.pairwise_cons.1 (Sorted.right hs)).1 b hb;simpa using this.asymm)
 rw[h1,h2,List.append_nil]
theorem y7(ns:List Nat)(i:Nat)(hi:i<=ns.length):((cV ns i).map (uk ns)).sum=measure (ns.take i):=by
 induction i with
 | zero=>simp[cV,measure]
 | succ i ih=>
  have hlt:i<ns.length:=hi;rw[fG,List.map_append,List.sum_append,ih (by omega),List.take_succ_eq_append_getElem hlt,mp,<-aY hlt];congr 1;by_cases h:key ns i=0
  ·simp[h,ep]
  ·simp[h,uk]
theorem xH{a b:List Nat}(f:Nat->Nat)(h:a.Perm b):(a.map f).sum=(b.map f).sum:=(h.map f).sum_nat
theorem kE(ns:List Nat):b6 ns (aD ns).length=measure ns:=by unfold b6;rw[List.take_of_length_le (Nat.le_refl _),xH _ (fA ns)];have:=y7 ns ns.length (Nat.le_refl _);rw[List.take_of_length_le (Nat.le_refl _)]at this;exact this
theorem lK(ns:List Nat)(k:Nat):b6 ns k<=measure ns:=by
 rw[<-kE];unfold b6;rw[List.take_of_length_le (Nat.le_refl _)];conv=>rhs;rw[<-List.take_append_drop k (aD ns)]
 rw[List.map_append,List.sum_append];omega
theorem Fy(d:Nat)(l:List Nat)(h:∀x∈l,d ∣ x):d ∣ l.sum:=by
 induction l with
 | nil=>simp
 | cons a r ih=>
  rw[List.sum_cons];exact Nat.dvd_add (h a (by simp)) (ih (λx hx=>h x (List.mem_cons_of_mem _ hx)))
def dy(ns:List Nat)(s:Nat):Nat:=ia ns s / 2 ^ (15-key ns s)
theorem je(ns:List Nat)(s:Nat):dy ns s*2 ^ (15-key ns s)=ia ns s:=by
 refine Nat.div_mul_cancel (Fy _ _ (λx hx=>?_));obtain⟨t,ht,rfl⟩:=List.mem_map.1 hx;have hlt:Lt ns t s:=by simpa using(List.mem_filter.1 ht).2
 have h0:=(aU.1 (List.mem_filter.1 ht).1).2;unfold uk ep;rw[if_neg h0];exact Nat.pow_dvd_pow 2 (by unfold Lt at hlt;omega)
def ji(ns:List Nat)(s:Nat):Nat:=if key ns s=0 then 0 else rv (key ns s) (dy ns s)
def dN(ns:List Nat):List Nat:=(List.range ns.length).map (ji ns)
theorem fi(ns:List Nat):(dN ns).length=ns.length:=by simp[dN]
def im(ns:List Nat)(k:Nat):List Nat:=(List.range ns.length).map (λs=>if s∈(aD ns).take k then ji ns s else 0)
theorem zT(ns:List Nat):im ns 0=List.replicate ns.length 0:=by unfold im;simp[List.map_const']
theorem C0(ns:List Nat):im ns (aD ns).length=dN ns:=by
 unfold im dN;rw[List.take_of_length_le (Nat.le_refl _)];refine List.map_congr_left (λs hs=>?_);by_cases h:s∈aD ns
 ·rw[if_pos h]
 ·rw[if_neg h];have:key ns s=0:=by
   have h2:=mt aU.2 h;simp at hs;exact Classical.byContradiction (λh3=>h2 ⟨hs,h3⟩)
  simp[ji,this]
theorem ze(ns:List Nat)(k:Nat)(h:k<(aD ns).length):(im ns k).set (aD ns)[k] (ji ns (aD ns)[k])=im ns (k+1):=by
 unfold im;refine List.ext_getElem (by simp) (λj h1 h2=>?_);have hm:j∈(aD ns).take (k+1)↔j∈(aD ns).take k\/j=(aD ns)[k]:=by rw[List.take_succ_eq_append_getElem h,List.mem_append,List.mem_singleton]
 simp only[List.getElem_set,List.getElem_map,List.getElem_range,hm];by_cases e:(aD ns)[k]=j
 ·subst e;simp
 ·have e2:¬j=(aD ns)[k]:=λh=>e h.symm
  simp[e,e2]
theorem tJ(ns:List Nat)(k:Nat):(im ns k).length=ns.length:=by simp[im]
example:dN [2,1,3,3]=[1,0,3,7]:=by decide
structure Good(zs:List Int)(ns:List Nat):Prop where
 eq:ns.map am=zs.map bI
 len:ns.length=zs.length
 pos:0<ns.length
 max:ns.length<=288
 le:∀n∈ns,n<=15
 ok:bm ns=0
 int:zs=ns.map (fun(n:Nat)=>(n:Int))
theorem JN{zs:List Int}(h:chk zs=0):Good zs (zs.map Int.toNat):=by
 unfold chk at h;split at h
 ·rename_i hok;obtain⟨e,h1,h2,h3⟩:=nm hok;refine⟨e,by simp,by simpa using h1,by simpa using h2,λn hn=>by have:=h3 n hn;omega,h,?_⟩;have e2:=congrArg (List.map (λv:Value=>match v with | .int _ z=>z | _=>0)) e;simp only[List.map_map]at e2;rw[List.map_map];have e3:zs.map ((λv:Value=>match v with | .int _ z=>z | _=>0) ∘ bI)=zs:=by
   conv=>rhs;rw[<-List.map_id zs]
   refine List.map_congr_left (λz _=>rfl)
  rw[e3]at e2;exact e2.symm.trans (List.map_congr_left (λz _=>rfl))
 ·omega
theorem Good.measure_le{zs:List Int}{ns:List Nat}(h:Good zs ns):measure ns<=32768:=by
 have:=h.ok;unfold bm at this;split at this
 ·omega
 ·omega
theorem Good.key_le{zs:List Int}{ns:List Nat}(h:Good zs ns)(s:Nat):key ns s<=15:=by
 by_cases hs:s<ns.length
 ·rw[aY hs];exact h.le _ (List.getElem_mem _)
 ·simp[key,hs]
theorem D2(w:World)(v:Value)(I:Nat→Prop)(zs:List Int)(hs:SrcE bI w I v zs)(hn:zs.length≤1000000)(hb:chk zs≠0):
  Calls Tryz.prog 136 #[v] w λe w'=>e=.returned (.tuple #[.slice none 0 0,.int .i64 (chk zs:Nat)])/\Same w w':=by
 have HC:=km w v I zs hs hn;generalize chk zs=c at HC hb;have hd:((c:Int) != 0)=true:=by simp;omega
 clear hs hb;go_enter Tryz.func136,Tryz.ntmps136;go_wp2_with fail;refine HC.mono ?_;rintro e w2 ⟨rfl,hk⟩;have HK:Hid (Same w w2):=hk;clear hk HC;go_wp2_with fail
 first
  | (go_ret2;exact⟨rfl,HK.out⟩)
  | (go_quiet (fail);go_wp2_with fail;go_ret2;exact⟨rfl,HK.out.drewN _⟩)
theorem pG(w:World)(v:Value)(I:Nat→Prop)(zs:List Int)(ns:List Nat)(hs:SrcE bI w I v zs)(hg:Good zs ns)(hb:chk zs=0):
  Calls Tryz.prog 136 #[v] w λe w'=>(∃g n cap,e=.returned (.tuple #[.slice (some ⟨g,0,none⟩) n cap,.int .i64 0])/\Ag w.heap.size w' (.slice (some ⟨g,0,none⟩) n cap) (dN ns))/\Same w w':=by
 obtain⟨ao,cap,rfl,fO,fX⟩:=id hs;clear fO fX;have HC:=km w _ I zs hs (by have:=hg.len;have:=hg.max;omega);rw[hb]at HC;have HG:Hid (Good zs ns):=hg;have HS:Hid (SrcE am w I (.slice ao zs.length cap) ns):=hid (hs.recode hg.eq);have HL:Hid (zs.length=ns.length):=hg.len.symm;have Kc:zs.length<=288:=by have:=hg.len;have:=hg.max;omega
 clear hs hg hb;generalize zs.length=n at *
 go_enter Tryz.func136,Tryz.ntmps136;go_wp2_with fail;refine HC.mono ?_;rintro e w2 ⟨rfl,hk⟩;have HK:Hid (Same w w2):=hk;clear hk HC;go_wp2_with (at_make;refine dm _ mu 0 w.heap.size 107 35 4 Tryz.underlying107 Tryz.infoW rfl (by decide) rfl _ _ rfl _ _ _ _ n rfl rfl rfl rfl (by omega) HK.out.size ?_;intro w3 hr3 jH hs3);have HR3:Hid (Ag w.heap.size w3 (.slice (some ⟨w2.heap.size,0,none⟩) n n) (im ns 0)):=hid (by rw[zT,<-HL.out];exact hr3);have HK3:Hid (Same w2 w3):=hid ((Kept.refl _ w2).grown jH (by simp));have HK03:Hid (Same w w3):=hid (HK.out.trans HK3.out);have cX:=HK.out.size;clear hr3 jH;have HRI:=lV w3 _ I ns (HS.out.same HK03.out) (by have:=HL.out;omega);go_wp2_with fail;refine HRI.mono ?_;rintro e w4 ⟨v4,rfl,hn4⟩;have HN4:Hid (Ld w3 w4 v4 (aD ns)):=hn4;have HK4:Hid (Kept (·=w2.heap.size) w w4):=hid ((HK03.out.trans hn4.same).mono (λ_ _ h=>h.elim));have HR4:Hid (Ag w.heap.size w4 (.slice (some ⟨w2.heap.size,0,none⟩) n n) (im ns 0)):=hid (HR3.out.same hn4.same);obtain⟨W9,rJ,rfl,Q3,_⟩:=hn4.row.shape;have D8:=hn4.same.size;have xZ:(aD ns).length<=288:=Nat.le_trans (cI ns) (by have:=HL.out;omega);clear hn4 HRI HR3;obtain⟨rl,uj⟩:∃rl,rl=(aD ns).length:=⟨_,rfl⟩
 have HRL:Hid (rl=(aD ns).length):=uj;rw[<-uj]at xZ ⊢;clear uj Q3;go_wp2_with fail;go_loopg [6,7,21] rl (fun q znx zlg zk wr=>∃(k nx lg:Nat),rl-k≤q∧k≤rl∧nx≤32769∧lg≤15∧znx=.int .u32 (nx:Nat)∧zlg=.int .i64 (lg:Nat)∧zk=.int .i64 (k:Nat) ∧
   Hid (nx*2 ^ (15-lg)=b6 ns k/\(k=0/\lg=0\/0<k/\∃h:k-1<(aD ns).length,lg=key ns (aD ns)[k-1]))/\Hid (Ag w.heap.size wr (.slice (some ⟨w2.heap.size,0,none⟩) n n) (im ns k))/\Hid (Kept (·=w2.heap.size) w4 wr))
 case atStart=>exact⟨0,0,0,by omega,by omega,by omega,by omega,rfl,rfl,rfl,hid ⟨by simp[b6],.inl ⟨rfl,rfl⟩⟩,HR4.out,Kept.refl _ _⟩
 case round=>
  obtain⟨k,nx,lg,hq,hk,hnx,X6,rfl,rfl,rfl,HF,HR5,HK5⟩:=hrel;clear HR4;by_cases hlt:k<rl
  ·have xU:k<(aD ns).length:=(by have:=HRL.out;omega);have KR:NRow w3.heap.size wr (.slice W9 (aD ns).length rJ) (aD ns):=HN4.out.row.kept HK5.out (λj hj e=>by have:=HN4.out.row.ge hj;omega);obtain⟨b4,o4,OY,e4,_,_,c4⟩:=(SrcE.ofRow KR).get k xU;simp only[Value.slice.injEq]at e4;obtain⟨rfl,_,rfl⟩:=e4;obtain⟨s,hs⟩:∃s,s=(aD ns)[k]:=⟨_,rfl⟩
   rw[<-hs]at c4;unfold am at c4;have hsr:s<ns.length/\key ns s≠0:=aU.1 (by rw[hs];exact List.getElem_mem _);have Ip:s<n:=(by have:=HL.out;omega);have hsrc:SrcE am wr (λj=>I j/\j<w.heap.size) (.slice ao n cap) ns:=SrcE.kept (SrcE.kept HS.out.low HK4.out (λj hj _ e=>by omega)) HK5.out (λj hj _ e=>by omega);obtain⟨b,o,cap',e5,_,_,c5⟩:=hsrc.get s hsr.1;simp only[Value.slice.injEq]at e5;obtain⟨rfl,jt,rfl⟩:=e5;clear jt;rw[<-aY hsr.1]at c5;unfold am at c5;obtain⟨l,hl⟩:∃l,l=key ns s:=⟨_,rfl⟩
   rw[<-hl]at c5;have Oa:l<=15:=(by rw[hl];exact HG.out.key_le s);have Rl:0<l:=(by omega);have UR:lg<=l:=by
    rcases HF.out.2 with⟨_,h⟩ | ⟨h0,h1,h2⟩
    ·omega
    ·have:=Sorted.at (gH ns) (show k-1<k by omega) xU;unfold Lt at this;rw[h2,hl,hs];omega
   obtain⟨tl,LJ⟩:∃tl,tl=nx*2 ^ (l-lg):=⟨_,rfl⟩
   have hst:tl*2 ^ (15-l)=b6 ns k:=(by rw[LJ,Nat.mul_assoc,<-Nat.pow_add,show l-lg+(15-l)=15-lg by omega];exact HF.out.1);have SK:tl<=32768:=(by have h1:=lK ns k;have h2:=HG.out.measure_le;have h3:tl*1<=tl*2 ^ (15-l):=Nat.mul_le_mul_left _ (Nat.two_pow_pos _);omega);have tc:dy ns s=tl:=(by have h1:=je ns s;rw[hs,kd ns k xU,<-hs,<-hst,<-hl]at h1;exact Nat.eq_of_mul_eq_mul_right (Nat.two_pow_pos _) h1);have BV:ji ns s=rv l tl:=(by rw[ji,if_neg hsr.2,tc,<-hl]);have NO:jA tl / 2 ^ (32-l)=rv l tl:=Fb tl l (by omega) (by omega);obtain⟨cr,OE⟩:∃cr,cr=ji ns s:=⟨_,rfl⟩
   have LO:=fun(wx:World)=>wT wx tl (by omega)
   have LU:((jA tl:Nat):Int) / 2 ^ (32-l)=(cr:Int):=(by rw[OE,BV,<-NO];simp);have Oh:jA tl<4294967296:=ww tl (by omega);generalize jA tl=rr at LO LU Oh;have TL:(nx:Int)*2 ^ (l-lg) % 4294967296=(tl:Int):=(by have h1:((nx*2 ^ (l-lg):Nat):Int)=(tl:Int):=(by rw[LJ]);rw[Int.natCast_mul,Int.natCast_pow]at h1;rw[show((2:Nat):Int)=2 from rfl]at h1;rw[h1];omega);have TF:((l:Int)-(lg:Int))=((l-lg:Nat):Int):=(by omega);have Td:((32:Int)-(l:Int))=((32-l:Nat):Int):=(by omega);have BP:s<(im ns k).length:=(by rw[tJ];exact hsr.1);obtain⟨y,cy⟩:∃y:Nat,wr.cell? ⟨w2.heap.size,s,none⟩=some (.int .u32 (y:Nat)):=⟨_,HR5.out.cell s BP⟩
   have fy:=HR5.out.frozen s;have HR6:Hid (Ag w.heap.size (wr.setCell ⟨w2.heap.size,s,none⟩ (.int .u32 (cr:Nat))) (.slice (some ⟨w2.heap.size,0,none⟩) n n) (im ns (k+1))):=hid (by
    have h:=HR5.out.lay s (ji ns s);rw[hs,ze ns k xU,<-hs,<-OE]at h;exact h)
   have HF2:Hid ((tl+1)*2 ^ (15-l)=b6 ns (k+1)/\(k+1=0/\l=0\/0<k+1/\∃h:k+1-1<(aD ns).length,l=key ns (aD ns)[k+1-1])):=hid (by
    refine⟨?_,.inr ⟨by omega,by simpa using xU,by simpa[<-hs]using hl⟩⟩;rw[jg ns k xU,Nat.add_mul,hst,<-hs,uk,ep,if_neg hsr.2,<-hl];omega)
   clear hs hsr hsrc hl hst LJ tc BV NO OE BP HF KR;go_wp2_with fail;refine(LO _).mono ?_;rintro e w6 ⟨rfl,rfl⟩;clear LO;go_wp2_with fail;go_roundg (gk-1)
   case measure=>omega
   case rel=>exact⟨k+1,tl+1,l,by omega,by omega,by omega,Oa,by congr 1<;>omega,rfl,by go_num,HF2,HR6,HK5.out.setCell _ _ (.inl rfl)⟩
  ·have hk2:k=rl:=(by omega);subst hk2;go_wp2_with fail
   first
    | go_ret2
    | (go_quiet (fail);go_wp2_with fail;go_ret2)
   refine⟨⟨_,_,_,rfl,?_⟩,?_⟩
   ·have h:=HR5.out;rw[HRL.out,C0]at h;exact h
   ·have h1:=HK4.out.trans HK5.out (H:=(·=w2.heap.size)) (λ_ _ h=>h) (λ_ _ h=>h);exact Same.of h1 (λj hj e=>by omega)
end Go.Proofs.YtllcnlnbpikhdaaGreatDoor
namespace Go.Proofs.YtllcnlnbpikhdaaGreatDoor
theorem wi(n R:Nat):rv (n+1) R=2*rv n R+R / 2 ^ n % 2:=by
 refine Nat.eq_of_testBit_eq (λk=>?_);rw[gO,show 2*rv n R+R / 2 ^ n % 2=2 ^ 1*rv n R+R / 2 ^ n % 2 by rw[Nat.pow_one],Nat.testBit_two_pow_mul_add _ (by rw[Nat.pow_one];exact Nat.mod_lt _ (by decide)),gO];by_cases h:k<1
 ·have:k=0:=(by omega);subst this;rw[if_pos h,Nat.testBit_zero,show R / 2 ^ n % 2 % 2=R / 2 ^ n % 2 by omega];simp[Nat.testBit_eq_decide_div_mod_eq]
 ·rw[if_neg h];by_cases h2:k<n+1
  ·simp[h2,show k-1<n by omega,show n-1-(k-1)=n-k by omega]
  ·simp[h2,show ¬k-1<n by omega]
theorem FH(l m Z:Nat)(h:l<=m):rv m Z / 2 ^ (m-l)=rv l Z:=by
 refine Nat.eq_of_testBit_eq (λk=>?_);rw[Nat.testBit_div_two_pow,gO,gO];by_cases h2:k<l
 ·simp[h2,show k+(m-l)<m by omega,show m-1-(k+(m-l))=l-1-k by omega]
 ·simp[h2,show ¬k+(m-l)<m by omega]
theorem lI(l h Z:Nat)(hl:l<=h):rv l (Z % 2 ^ h)=rv l Z:=by
 refine Nat.eq_of_testBit_eq (λk=>?_);rw[gO,gO,Nat.testBit_mod_two_pow];by_cases h2:k<l
 ·simp[h2,show l-1-k<h by omega]
 ·simp[h2]
theorem wH(l c:Nat):rv l (rv l c)=c % 2 ^ l:=by
 refine Nat.eq_of_testBit_eq (λk=>?_);rw[gO,gO,Nat.testBit_mod_two_pow];by_cases h2:k<l
 ·simp[h2,show l-1-k<l by omega,show l-1-(l-1-k)=k by omega]
 ·simp[h2]
theorem zW(h m Z:Nat)(hz:Z<2 ^ h)(hm:h<=m):rv m Z=rv h Z*2 ^ (m-h):=by
 refine Nat.eq_of_testBit_eq (λk=>?_);rw[gO,Nat.testBit_mul_two_pow,gO];by_cases h1:m-h<=k
 ·by_cases h2:k<m
  ·simp[h1,h2,show k-(m-h)<h by omega,show h-1-(k-(m-h))=m-1-k by omega]
  ·simp[h2,show ¬k-(m-h)<h by omega]
 ·have:Z.testBit (m-1-k)=false:=Nat.testBit_lt_two_pow (Nat.lt_of_lt_of_le hz (Nat.pow_le_pow_right (n:=2) (by omega) (by omega)));simp[h1,this]
theorem tY(p:Nat->Bool)(l:List Nat)(h:l.Pairwise (λa b=>p b=true->p a=true))(k:Nat)(hk:k<l.length):p l[k]=true↔k<l.countP p:=by
 induction l generalizing k with
 | nil=>simp at hk
 | cons a r ih=>
  have hp:=List.pairwise_cons.1 h;by_cases ha:p a=true
  ·rw[List.countP_cons_of_pos ha];cases k with
   | zero=>simp[ha]
   | succ k=>
    have:=ih hp.2 k (by simpa using hk);simp only[List.getElem_cons_succ];rw[this];omega
  ·rw[List.countP_cons_of_neg ha];have h0:r.countP p=0:=List.countP_eq_zero.2 (λb hb N9=>ha (hp.1 b hb N9));rw[h0];cases k with
   | zero=>simp[ha]
   | succ k=>
    simp only[List.getElem_cons_succ];have:¬p (r[k]'(by simpa using hk))=true:=λe=>ha (hp.1 _ (List.getElem_mem _) e)
    simp[this]
def oS(ns:List Nat)(n:Nat):Nat:=(aD ns).countP (λt=>decide (key ns t<=n))
def Bv(ns:List Nat)(m:Nat):Nat:=(aD ns).countP (λt=>decide (key ns t=m))
theorem gj(ns:List Nat)(n k:Nat)(hk:k<(aD ns).length):key ns (aD ns)[k]<=n↔k<oS ns n:=by have h:=tY (λt=>decide (key ns t<=n)) (aD ns) ((gH ns).imp (λ{a b} Eu hb=>by simp at hb ⊢;unfold Lt at Eu;omega)) k hk;simpa[oS]using h
theorem xq(ns:List Nat):oS ns 0=0:=by refine List.countP_eq_zero.2 (λt ht h=>?_);have:=(aU.1 ht).2;simp at h;exact this h
theorem mT(ns:List Nat)(n:Nat):oS ns (n+1)=oS ns n+Bv ns (n+1):=by
 unfold oS Bv;generalize aD ns=l
 induction l with
 | nil=>simp
 | cons a r ih=>
  rw[List.countP_cons,List.countP_cons,List.countP_cons,ih];by_cases h1:key ns a<=n
  ·simp[h1,show key ns a<=n+1 by omega,show ¬key ns a=n+1 by omega];omega
  ·by_cases h2:key ns a=n+1
   ·simp[h2,show ¬n+1<=n by omega];omega
   ·simp[h1,h2,show ¬key ns a<=n+1 by omega]
theorem uh(ns:List Nat)(n:Nat):oS ns n<=(aD ns).length:=List.countP_le_length
theorem oy(ns:List Nat)(n i:Nat)(hn:n<15)(hi:i<=Bv ns (n+1)):b6 ns (oS ns n+i)=b6 ns (oS ns n)+i*2 ^ (15-(n+1)):=by
 induction i with
 | zero=>simp
 | succ i ih=>
  have h1:=mT ns n;have h2:=uh ns (n+1);have hk:oS ns n+i<(aD ns).length:=(by omega);have k1:=(gj ns (n+1) _ hk).2 (by omega);have k2:=mt (gj ns n _ hk).1 (by omega);have hkey:key ns (aD ns)[oS ns n+i]=n+1:=(by omega);rw[show oS ns n+(i+1)=(oS ns n+i)+1 by omega,jg ns _ hk,ih (by omega),uk,hkey,ep,if_neg (by omega),Nat.add_mul,Nat.one_mul];omega
theorem CF(ns:List Nat)(n i:Nat)(hi:i<Bv ns (n+1)):∃hk:oS ns n+i<(aD ns).length,key ns (aD ns)[oS ns n+i]=n+1:=by
 have h1:=mT ns n;have h2:=uh ns (n+1);have hk:oS ns n+i<(aD ns).length:=by omega
 have k1:=(gj ns (n+1) _ hk).2 (by omega);have k2:=mt (gj ns n _ hk).1 (by omega);exact⟨hk,by omega⟩
def iu(ns:List Nat):Nat:=ns.foldl max 0
theorem kn(l:List Nat)(a:Nat):a<=l.foldl max a/\(∀x∈l,x<=l.foldl max a)/\(l.foldl max a=a\/l.foldl max a∈l):=by
 induction l generalizing a with
 | nil=>simp
 | cons b r ih=>
  obtain⟨h1,h2,h3⟩:=ih (max a b);simp only[List.foldl_cons];refine⟨by omega,?_,?_⟩
  ·intro x hx;rcases List.mem_cons.1 hx with rfl | hx
   ·omega
   ·exact h2 x hx
  ·rcases h3 with h | h
   ·rw[h];by_cases Eu:a<=b
    ·right;rw[Nat.max_eq_right Eu];simp
    ·left;omega
   ·right;exact List.mem_cons_of_mem _ h
theorem iZ(ns:List Nat)(s:Nat):key ns s<=iu ns:=by
 by_cases h:s<ns.length
 ·rw[aY h];exact(kn ns 0).2.1 _ (List.getElem_mem _)
 ·simp[key,h]
theorem xQ(ns:List Nat)(b:Nat)(h:∀n∈ns,n<=b):iu ns<=b:=by
 rcases(kn ns 0).2.2 with h1 | h1
 ·unfold iu;omega
 ·exact h _ h1
theorem Jw(ns:List Nat):oS ns (iu ns)=(aD ns).length:=List.countP_eq_length.2 (λt _=>by simpa using iZ ns t)
def fN(ns:List Nat)(k:Nat):List Nat:=(List.range (iu ns)).map (λj=>((aD ns).take k).countP (λt=>decide (key ns t=j+1)))
def kN(ns:List Nat):List Nat:=(List.range (iu ns)).map (λj=>Bv ns (j+1))
theorem Dw(ns:List Nat):fN ns (aD ns).length=kN ns:=by unfold fN kN Bv;rw[List.take_of_length_le (Nat.le_refl _)]
theorem yS(ns:List Nat):fN ns 0=List.replicate (iu ns) 0:=by unfold fN;simp[List.map_const']
theorem tK(ns:List Nat)(k:Nat):(fN ns k).length=iu ns:=by simp[fN]
theorem zD(ns:List Nat)(k:Nat)(hk:k<(aD ns).length)(hl:key ns (aD ns)[k]-1<(fN ns k).length):
  (fN ns k).set (key ns (aD ns)[k]-1) ((fN ns k)[key ns (aD ns)[k]-1]+1)=fN ns (k+1):=by
 have h0:=(aU.1 (List.getElem_mem hk)).2;unfold fN at *
 refine List.ext_getElem (by simp) (λj h1 h2=>?_);have hc:((aD ns).take (k+1)).countP (λt=>decide (key ns t=j+1))=((aD ns).take k).countP (λt=>decide (key ns t=j+1))+(if key ns (aD ns)[k]=j+1 then 1 else 0):=by rw[List.take_succ_eq_append_getElem hk,List.countP_append];by_cases h:key ns (aD ns)[k]=j+1<;>simp[h]
 simp only[List.getElem_set,List.getElem_map,List.getElem_range,hc];by_cases e:key ns (aD ns)[k]-1=j
 ·have e2:key ns (aD ns)[k]=j+1:=(by omega);subst e;rw[if_pos rfl,if_pos e2]
 ·have e2:¬key ns (aD ns)[k]=j+1:=(by omega);rw[if_neg e,if_neg e2];rfl
def Ans(ns:List Nat)(h R sym long e:Nat):Prop:=
 (e=0/\sym∈aD ns/\long=key ns sym/\long<=h/\rv long R=dy ns sym) \/
 (e=10/\sym=0/\long=0/\h<iu ns/\b6 ns (oS ns h)<=rv h R*2 ^ (15-h)) \/
 (e=32/\sym=0/\long=0/\h=iu ns/\measure ns<=rv h R*2 ^ (15-h))
structure Seek(ns:List Nat)(R n place ahead:Nat):Prop where
 ah:ahead=oS ns n
 pl:(place*2 ^ (15-n))+b6 ns (oS ns n)=rv n R*2 ^ (15-n)
theorem Seek.start(ns:List Nat)(R:Nat):Seek ns R 0 0 0:=⟨(xq ns).symm,by rw[xq];simp[rv,b6]⟩
theorem Seek.bit{ns:List Nat}{R n place ahead:Nat}(h:Seek ns R n place ahead)(hn:n<15):(2*place+R / 2 ^ n % 2)*2 ^ (15-(n+1))+b6 ns (oS ns n)=rv (n+1) R*2 ^ (15-(n+1)):=by
 have h1:=h.pl;have e:2 ^ (15-n)=2*2 ^ (15-(n+1)):=by rw[show 15-n=(15-(n+1))+1 by omega,Nat.pow_succ];omega
 rw[e]at h1;rw[wi,Nat.add_mul,Nat.add_mul];have e2:2*place*2 ^ (15-(n+1))=place*(2*2 ^ (15-(n+1))):=by rw[Nat.mul_comm 2 place,Nat.mul_assoc]
 have e3:2*rv n R*2 ^ (15-(n+1))=rv n R*(2*2 ^ (15-(n+1))):=by rw[Nat.mul_comm 2 (rv n R),Nat.mul_assoc]
 omega
theorem Seek.found{ns:List Nat}{R n place ahead:Nat}(h:Seek ns R n place ahead)(hn:n<15)(hp:2*place+R / 2 ^ n % 2<Bv ns (n+1)):
  ∃hk:ahead+(2*place+R / 2 ^ n % 2)<(aD ns).length,key ns (aD ns)[ahead+(2*place+R / 2 ^ n % 2)]=n+1/\rv (n+1) R=dy ns (aD ns)[ahead+(2*place+R / 2 ^ n % 2)]:=by
 have hb:=h.bit hn;have ha:=h.ah;subst ha;generalize 2*place+R / 2 ^ n % 2=i at *
 obtain⟨hk,hkey⟩:=CF ns n i hp;refine⟨hk,hkey,?_⟩;have h1:=je ns (aD ns)[oS ns n+i];rw[kd ns _ hk,hkey,oy ns n i hn (by omega)]at h1;have h2:rv (n+1) R*2 ^ (15-(n+1))=dy ns (aD ns)[oS ns n+i]*2 ^ (15-(n+1)):=by omega
 exact Nat.eq_of_mul_eq_mul_right (Nat.two_pow_pos _) h2
theorem Seek.next{ns:List Nat}{R n place ahead:Nat}(h:Seek ns R n place ahead)(hn:n<15)(hp:¬2*place+R / 2 ^ n % 2<Bv ns (n+1)):
  Seek ns R (n+1) (2*place+R / 2 ^ n % 2-Bv ns (n+1)) (ahead+Bv ns (n+1)):=by
 have hb:=h.bit hn;have hs:=mT ns n;refine⟨by rw[h.ah,hs],?_⟩;generalize 2*place+R / 2 ^ n % 2=i at *
 have h1:=oy ns n (Bv ns (n+1)) hn (Nat.le_refl _);rw[hs,h1,Nat.sub_mul];have h2:Bv ns (n+1)*2 ^ (15-(n+1))<=i*2 ^ (15-(n+1)):=Nat.mul_le_mul_right _ (by omega);omega
theorem j0{ns:List Nat}{s:Nat}(h:s∈aD ns):∃k,∃hk:k<(aD ns).length,(aD ns)[k]=s/\ia ns s=b6 ns k/\b6 ns (k+1)=ia ns s+2 ^ (15-key ns s):=by obtain⟨k,hk,rfl⟩:=List.getElem_of_mem h;refine⟨k,hk,rfl,kd ns k hk,?_⟩;rw[jg ns k hk,kd ns k hk,uk,ep,if_neg (aU.1 h).2]
theorem my{ns:List Nat}{i j:Nat}(h:i<=j):b6 ns i<=b6 ns j:=by
 unfold b6;have e:(aD ns).take i=((aD ns).take j).take i:=by rw[List.take_take,Nat.min_eq_left h]
 rw[e];conv=>rhs;rw[<-List.take_append_drop i ((aD ns).take j)]
 rw[List.map_append,List.sum_append];omega
theorem mr{ns:List Nat}{s Z:Nat}(_hs:s∈aD ns)(h15:key ns s<=15):rv (key ns s) Z=dy ns s↔ia ns s<=rv 15 Z/\rv 15 Z<ia ns s+2 ^ (15-key ns s):=by
 rw[<-FH (key ns s) 15 Z h15,<-je ns s];have hp:0<2 ^ (15-key ns s):=Nat.two_pow_pos _;have hd:=Nat.div_add_mod (rv 15 Z) (2 ^ (15-key ns s));have hm:=Nat.mod_lt (rv 15 Z) hp;constructor
 ·intro e;rw[<-e];have:rv 15 Z / 2 ^ (15-key ns s)*2 ^ (15-key ns s)=2 ^ (15-key ns s)*(rv 15 Z / 2 ^ (15-key ns s)):=Nat.mul_comm _ _;omega
 ·rintro⟨h1,h2⟩;refine Nat.le_antisymm ?_ ?_
  ·have h3:rv 15 Z<(dy ns s+1)*2 ^ (15-key ns s):=(by rw[Nat.add_mul,Nat.one_mul];exact h2);have:=(Nat.div_lt_iff_lt_mul hp).2 h3;omega
  ·exact(Nat.le_div_iff_mul_le hp).2 h1
theorem wE{ns:List Nat}{s t Z:Nat}(hs:s∈aD ns)(ht:t∈aD ns)(h15:∀x,key ns x<=15)(h1:rv (key ns s) Z=dy ns s)(h2:rv (key ns t) Z=dy ns t):s=t:=by
 have e1:=(mr hs (h15 s)).1 h1;have e2:=(mr ht (h15 t)).1 h2;obtain⟨i,hi,rfl,a1,a2⟩:=j0 hs;obtain⟨j,hj,rfl,b1,b2⟩:=j0 ht;rcases Nat.lt_trichotomy i j with h | h | h
 ·have:=my (ns:=ns) (show i+1<=j from h);omega
 ·subst h;rfl
 ·have:=my (ns:=ns) (show j+1<=i from h);omega
theorem Ans.unique{ns:List Nat}{Z left sym long e s:Nat}(h15:∀x,key ns x≤15)(hZ:Z<2 ^ left)(ha:Ans ns (min left (iu ns)) (Z % 2 ^ (min left (iu ns))) sym long e)(hm:iu ns≤15)
  (hs:s∈aD ns) (hl:key ns s<=left) (hf:rv (key ns s) Z=dy ns s):e=0/\sym=s/\long=key ns s:=by
 have rn:=iZ ns s;have h1:=(mr hs (h15 s)).1 hf;obtain⟨k,hk,rfl,a1,a2⟩:=j0 hs;rcases ha with⟨e0,Mn,BS,MI,hr⟩ | ⟨_,_,_,hh,yh⟩ | ⟨_,_,_,hh,yh⟩
 ·rw[lI _ _ _ MI,BS]at hr;have:=wE Mn hs h15 hr hf;exact⟨e0,this,by rw[BS,this]⟩
 ·exfalso;have o7:min left (iu ns)=left:=(by omega);rw[o7,lI _ _ _ (Nat.le_refl _),<-zW left 15 Z hZ (by omega)]at yh;have h2:=(gj ns left k hk).1 hl;have h3:=my (ns:=ns) (show k+1<=oS ns left from h2);omega
 ·exfalso;rw[hh,lI _ _ _ (Nat.le_refl _),<-FH (iu ns) 15 Z hm]at yh;have h2:=Nat.div_mul_le_self (rv 15 Z) (2 ^ (15-iu ns));have h3:=lK ns (k+1);omega
end Go.Proofs.YtllcnlnbpikhdaaGreatDoor
namespace Go.Proofs.YtllcnlnbpikhdaaGreatDoor
open Go.RowKit
theorem BK(w:World)(v:Value)(I:Nat→Prop)(ns:List Nat)(hs:SrcE am w I v ns)(hn:ns.length≤1000000)(h0:0<ns.length)(h15:∀n∈ns,n≤1000000000000):
  Calls Tryz.prog 182 #[v] w λe w'=>e=.returned (.int .i64 (iu ns:Nat))/\w'=w:=by
 obtain⟨b,o,cap,rfl,_,_,c0⟩:=hs.get 0 h0;have HS:Hid (SrcE am w I (.slice (some ⟨b,o,none⟩) ns.length cap) ns):=hs;have H15:Hid (∀n∈ns,n<=1000000000000):=h15;clear hs h15;obtain⟨x0,yb⟩:∃x,x=ns[0]:=⟨_,rfl⟩
 rw[<-yb]at c0;unfold am at c0;have HX0:Hid (x0=ns[0]):=yb;clear yb;rw[Nat.add_zero]at c0;have ag:((ns.length:Int)<1)=False:=by simp;omega
 go_enter Tryz.func182,Tryz.ntmps182;go_wp2_with fail;clear ag;go_loopg [3,4] ns.length (λq zm zi wr=>∃(i m:Nat),ns.length-i<=q/\i<=ns.length/\1<=i/\zi=.int .i64 (i:Nat)/\zm=.int .i64 (m:Nat)/\wr=w/\Hid (m=(ns.take i).foldl max 0))
 case atStart=>exact⟨1,x0,by omega,by omega,by omega,rfl,rfl,rfl,hid (by
  rw[show(1:Nat)=0+1 from rfl,List.take_succ_eq_append_getElem h0,<-HX0.out];simp)⟩
 case round=>
  obtain⟨i,m,hq,hi,YF,rfl,rfl,rfl,HF⟩:=hrel;by_cases hlt:i<ns.length
  ·obtain⟨b2,o2,eG,e,_,_,c1⟩:=HS.out.get i hlt;simp only[Value.slice.injEq,Option.some.injEq,Addr.mk.injEq,and_true]at e;obtain⟨⟨rfl,rfl⟩,jt,rfl⟩:=e;clear jt;obtain⟨x,hx⟩:∃x,x=ns[i]:=⟨_,rfl⟩
   rw[<-hx]at c1;unfold am at c1;have HX:Hid (x=ns[i]):=hx;clear hx;by_cases rn:m<x
   ·go_wp2_with fail;go_roundg (gk-1)
    case measure=>omega
    case rel=>exact⟨i+1,x,by omega,by omega,by omega,by go_num,by first | rfl | (congr 1;omega),rfl,hid (by rw[List.take_succ_eq_append_getElem hlt,List.foldl_append,<-HF.out,<-HX.out];simp[Nat.max_eq_right (show m<=x by omega)])⟩
   ·go_wp2_with fail;go_roundg (gk-1)
    case measure=>omega
    case rel=>exact⟨i+1,m,by omega,by omega,by omega,by go_num,by first | rfl | (congr 1;omega),rfl,hid (by rw[List.take_succ_eq_append_getElem hlt,List.foldl_append,<-HF.out,<-HX.out];simp[Nat.max_eq_left (show x<=m by omega)])⟩
  ·have uD:i=ns.length:=(by omega);subst uD;go_wp2_with fail;go_ret;have h:=HF.out;rw[List.take_of_length_le (Nat.le_refl _)]at h;exact⟨by rw[iu,<-h];rfl,rfl⟩
structure Dec(w:World)(p:Nat)(vc vs:Value)(ns:List Nat):Prop where
 cc:w.cell? ⟨p,0,none⟩=some vc
 cs:w.cell? ⟨p,1,none⟩=some vs
 rc:NRow 0 w vc (kN ns)
 rs:NRow 0 w vs (aD ns)
def DF(p:Nat)(vc vs:Value)(k:Nat):Prop:=k=p\/vc.ownBlock=some k\/vs.ownBlock=some k
theorem Dec.kept{F:Nat->Prop}{w w':World}{p:Nat}{vc vs:Value}{ns:List Nat}(h:Dec w p vc vs ns)(hk:Kept F w w')(hF:∀k,DF p vc vs k->¬F k):Dec w' p vc vs ns:=
 ⟨hk.cell h.cc (hF p (.inl rfl)),hk.cell h.cs (hF p (.inl rfl)),h.rc.kept hk (λk e=>hF k (.inr (.inl e))),h.rs.kept hk (λk e=>hF k (.inr (.inr e)))⟩
theorem Dec.lt{w:World}{p:Nat}{vc vs:Value}{ns:List Nat}(h:Dec w p vc vs ns){k:Nat}(hk:DF p vc vs k):k<w.heap.size:=by
 rcases hk with rfl | hk | hk
 ·exact World.block_lt_of_cell? w _ h.cc
 ·exact h.rc.lt hk
 ·exact h.rs.lt hk
theorem A3(w:World)(v:Value)(I:Nat→Prop)(zs:List Int)(hs:SrcE bI w I v zs)(hn:zs.length≤1000000)(hb:chk zs≠0):
  Calls Tryz.prog 152 #[v] w λe w'=>e=.returned (.tuple #[.pointer none,.int .i64 (chk zs:Nat)])/\Same w w':=by
 have HC:=km w v I zs hs hn;generalize chk zs=c at HC hb;have hd:((c:Int) != 0)=true:=by simp;omega
 clear hs hb;go_enter Tryz.func152,Tryz.ntmps152;go_wp2_with fail;refine HC.mono ?_;rintro e w2 ⟨rfl,hk⟩;have HK:Hid (Same w w2):=hk;clear hk HC;go_wp2_with fail
 first
  | (go_ret2;exact⟨rfl,HK.out⟩)
  | (go_quiet (fail);go_wp2_with fail;go_ret2;exact⟨rfl,HK.out.drewN _⟩)
theorem pI(w:World)(p:Nat)(vc vs:Value)(ns:List Nat)(R h:Nat)(hd:Dec w p vc vs ns)(hm:iu ns≤15)(hns:ns.length≤288)(hh:h≤iu ns)(hR:R<4294967296):
  Calls Tryz.prog 196 #[.pointer (some ⟨p,0,none⟩),.int .u32 (R:Nat),.int .i64 (h:Nat)] w λe w'=>(∃sym long er,e=.returned (.tuple #[.int .i64 (sym:Nat),.int .i64 (long:Nat),.int .i64 (er:Nat)])/\Ans ns h R sym long er)/\Same w w':=by
 obtain⟨ac,capc,rfl,shc,_⟩:=hd.rc.shape;obtain⟨as',caps,rfl,shs,_⟩:=hd.rs.shape;have c1:=hd.cc;have c2:=hd.cs;have HD:Hid (Dec w p (.slice ac (kN ns).length capc) (.slice as' (aD ns).length caps) ns):=hd;have HM:Hid (iu ns=(kN ns).length):=hid (by simp[kN]);have fq:(kN ns).length<=15:=by have:=HM.out;omega
 have Ir:h<=(kN ns).length:=by have:=HM.out;omega
 have HRL:Hid ((aD ns).length<=288):=hid (Nat.le_trans (cI ns) hns);clear hd hm shc shs hh;generalize ti:(kN ns).length=cn at *
 have HCN:Hid ((kN ns).length=cn):=ti;clear ti;go_enter Tryz.func196,Tryz.ntmps196;go_wp2_with fail;go_step3;go_wp2_with fail;go_step3;go_wp2_with fail;go_loopg [6,7,8,9,10,18] cn (λq z6 z7 z8 zp za zn wr=>∃(n place ahead:Nat),cn-n<=q/\n<=cn/\n<=h/\place<=32768/\ahead<=288/\z6=.int .i64 0/\z7=.int .i64 0/\z8=.int .i64 32/\zp=.int .i64 (place:Nat)/\za=.int .i64 (ahead:Nat)/\zn=.int .i64 (n:Nat)/\Hid (Seek ns R n place ahead)/\Hid (Same w wr))
 case atStart=>exact⟨0,0,0,by omega,by omega,by omega,by omega,by omega,rfl,rfl,rfl,rfl,rfl,rfl,Seek.start ns R,Kept.refl _ _⟩
 case round=>
  obtain⟨n,place,ahead,hq,hn,M6,Es,Az,rfl,rfl,rfl,rfl,rfl,rfl,HF,HK⟩:=hrel;have d2:wr.cell? ⟨p,1,none⟩=some (.slice as' (aD ns).length caps):=HK.out.cell c2 (λh=>h);by_cases hlt:n<cn
  ·obtain⟨b,o,cap',e,_,_,cx⟩:=(SrcE.ofRow (HD.out.rc.same HK.out)).get n (by have:=HCN.out;omega);simp only[Value.slice.injEq]at e;obtain⟨rfl,jt,rfl⟩:=e;clear jt;obtain⟨x,hx⟩:∃x,x=Bv ns (n+1):=⟨_,rfl⟩
   have Sf:wr.cell? ⟨b,o+n,none⟩=some (.int .i64 (x:Int)):=(by rw[cx,hx];simp[am,kN]);have HX:Hid (x=Bv ns (n+1)):=hx;clear cx hx;obtain⟨bt,Nc⟩:∃bt,bt=R / 2 ^ n % 2:=⟨_,rfl⟩
   have hbl:bt<2:=(by omega);have Xr:bits .and .u32 ((R:Int) / 2 ^ n) 1=(bt:Int):=(by have e1:(R:Int) / 2 ^ n=((R / 2 ^ n:Nat):Int):=(by simp);have:=u32_and_nat (R / 2 ^ n) 1 (Nat.lt_of_le_of_lt (Nat.div_le_self _ _) hR) (by decide);rw[e1,Nc];rw[Nat.and_one_is_mod]at this;exact this);have HB:Hid (bt=R / 2 ^ n % 2):=Nc;have ST:x<=288:=(by have h1:=mT ns n;have h2:=uh ns (n+1);have h3:=HX.out;have h4:=HRL.out;omega);clear Nc;by_cases Hk:n=h
   ·have J9:((n:Int)==(h:Int))=true:=(by simp[Hk]);have HE:Hid (n=h):=Hk;clear Hk;go_wp2_with fail;rw[Exit.noGoto_ret];go_ret3;refine⟨⟨0,0,10,rfl,.inr (.inl ⟨rfl,rfl,rfl,?_,?_⟩)⟩,HK.out⟩
    ·have:=HM.out;have:=HCN.out;have:=HE.out;omega
    ·have h1:=HF.out.pl;rw[HE.out]at h1;omega
   ·have J9:((n:Int)==(h:Int))=false:=(by simp;omega);by_cases Lu:2*place+bt<x
    ·obtain⟨hk,hkey,tc⟩:=HF.out.found (by omega) (by rw[<-HB.out,<-HX.out];exact Lu);obtain⟨b3,o3,kR,e3,_,_,c3⟩:=(SrcE.ofRow (HD.out.rs.same HK.out)).get _ hk;simp only[Value.slice.injEq]at e3;obtain⟨rfl,jt,rfl⟩:=e3;clear jt;obtain⟨sy,jd⟩:∃sy,sy=(aD ns)[ahead+(2*place+R / 2 ^ n % 2)]:=⟨_,rfl⟩
     rw[<-jd]at c3 hkey tc;rw[<-HB.out]at c3 hk;unfold am at c3;have HANS:Hid (Ans ns h R sy (n+1) 0):=hid (.inl ⟨rfl,by rw[jd];exact List.getElem_mem _,hkey.symm,by omega,tc⟩);clear jd hkey tc;have uj:=HRL.out;go_wp2_with fail;rw[Exit.noGoto_ret];go_ret3;exact⟨⟨sy,n+1,0,rfl,HANS.out⟩,HK.out⟩
    ·have HS2:Hid (Seek ns R (n+1) (2*place+bt-x) (ahead+x)):=hid (by
      have:=HF.out.next (by omega) (by rw[<-HB.out,<-HX.out];exact Lu)
      rw[<-HB.out,<-HX.out]at this;exact this)
     have UD:ahead+x<=288:=(by have h1:=HS2.out.ah;have h2:=uh ns (n+1);have h4:=HRL.out;omega);have rH:2*place+bt-x<=32768:=(by have h1:=HS2.out.pl;have h2:=EM (n+1) R;have h3:rv (n+1) R*2 ^ (15-(n+1))<=2 ^ (n+1)*2 ^ (15-(n+1)):=Nat.mul_le_mul_right _ (by omega);rw[<-Nat.pow_add,show n+1+(15-(n+1))=15 by omega]at h3;have h4:(2*place+bt-x)*1<=(2*place+bt-x)*2 ^ (15-(n+1)):=Nat.mul_le_mul_left _ (Nat.two_pow_pos _);have h5:(2:Nat) ^ 15=32768:=(by decide);omega);go_wp2_with fail;go_roundg (gk-1)
     case measure=>omega
     case rel=>exact⟨n+1,2*place+bt-x,ahead+x,by omega,by omega,by omega,rH,UD,rfl,rfl,rfl,by congr 1;omega,by congr 1,by go_num,HS2,HK⟩
  ·have hn2:n=cn:=(by omega);subst hn2;go_wp2_with fail;rw[Exit.noGoto_ret];go_ret3;refine⟨⟨0,0,32,rfl,.inr (.inr ⟨rfl,rfl,rfl,?_,?_⟩)⟩,HK.out⟩
   ·have:=HM.out;have:=HCN.out;omega
   ·have h1:=HF.out.pl;have h2:n=iu ns:=(by have:=HM.out;have:=HCN.out;omega);have h3:n=h:=(by omega);rw[<-kE,<-Jw ns,<-h2,<-h3];omega
theorem wP(ns:List Nat):(kN ns).length=iu ns:=by simp[kN]
theorem EU(w:World)(d:Nat)(vc vs:Value)(ns:List Nat)(p c:Nat)(s:Value)(bs:List Nat)(hd:Dec w d vc vs ns)(hm:iu ns≤15)(hns:ns.length≤288)(hs:St w p s bs c)(hc:c≤8*bs.length)(ag:bs.length≤100000000)(oj:∀k,DF d vc vs k→¬Fp p s k):
  Calls Tryz.prog 184 #[.pointer (some ⟨d,0,none⟩),.pointer (some ⟨p,0,none⟩)] w λe w'=>(∃sym long er,e=.returned (.tuple #[.int .i64 (sym:Nat),.int .i64 (er:Nat)]) /\
   Ans ns (min (8*bs.length-c) (iu ns)) (aN bs / 2 ^ c % 2 ^ (min (8*bs.length-c) (iu ns))) sym long er/\St w' p s bs (c+long))/\Kept (·=p) w w':=by
 have HL:=λq=>pM p c s bs (w.drewN q) (hs.drewN q) hc (by omega)
 obtain⟨ac,capc,rfl,shc,_⟩:=hd.rc.shape;have c1:=hd.cc;have HD:Hid (Dec w d (.slice ac (kN ns).length capc) vs ns):=hd;have HS:Hid (St w p s bs c):=hs;have HX:Hid (∀k,DF d (.slice ac (kN ns).length capc) vs k->¬Fp p s k):=oj;have fq:=wP ns;obtain⟨left,Ie⟩:∃left,left=8*bs.length-c:=⟨_,rfl⟩
 rw[<-Ie]at HL ⊢;obtain⟨mx,rn⟩:∃mx,mx=iu ns:=⟨_,rfl⟩
 rw[<-rn]at fq hm ⊢;have HMX:Hid (mx=iu ns):=rn;have HLEFT:Hid (left=8*bs.length-c):=Ie;have HCL:Hid ((kN ns).length=mx):=fq;clear hd hs oj rn Ie shc;rw[fq]at c1 HD HX;clear fq;go_enter Tryz.func184,Tryz.ntmps184;by_cases hlm:mx<left
 ·have HMIN:Hid (min left mx=mx):=hid (by omega);go_wp2_with fail;go_quiet ((go_at_call 149;exact Calls.quiet_of (HL _)));have HT:=f8 p c mx s bs (w.drewN nq) (HS.out.drewN nq) (by omega) (by omega) (by have:=HLEFT.out;omega);obtain⟨R,hR⟩:∃R,R=aN bs / 2 ^ c % 2 ^ mx:=⟨_,rfl⟩
  rw[<-hR]at HT;have HR:Hid (R=aN bs / 2 ^ c % 2 ^ mx):=hR;have Rj:R<4294967296:=by have h1:R<2 ^ mx:=(by rw[hR];exact Nat.mod_lt _ (Nat.two_pow_pos _));have h2:2 ^ mx<=2 ^ 15:=Nat.pow_le_pow_right (by omega) (by omega);have h3:(2:Nat) ^ 15=32768:=(by decide);omega
  clear hR;go_wp2_with fail;refine HT.mono ?_;rintro e w1 ⟨rfl,hst1,hk1⟩;have HS1:Hid (St w1 p s bs (c+mx)):=hst1;have HK1:Hid (Kept (·=p) w w1):=hid (((Kept.refl (·=p) w).drewN nq).trans hk1 (λ_ _ h=>h) (λ_ _ h=>h));have HSE:=pI w1 d _ vs ns R mx (HD.out.kept HK1.out (λk hk e=>HX.out k hk (.inl e))) (by have:=HMX.out;omega) hns (by have:=HMX.out;omega) Rj;clear hst1 hk1 HT;go_wp2_with fail;refine HSE.mono ?_;rintro e w2 ⟨⟨sym,long,er,rfl,rI⟩,hk2⟩;have HANS:Hid (Ans ns mx R sym long er):=rI;have yf:long<=mx:=by
   rcases rI with⟨_,_,_,h,_⟩ | ⟨_,_,h,_⟩ | ⟨_,_,h,_⟩
   ·exact h
   ·omega
   ·omega
  have ju:((mx:Int)-(long:Int))=((mx-long:Nat):Int):=(by omega);have HS2:Hid (St w2 p s bs (c+mx)):=hid (HS1.out.kept hk2 (λ_ _ h=>h));have HK2:Hid (Kept (·=p) w w2):=hid (HK1.out.trans hk2 (λ_ _ h=>h) (λ_ _ h=>h.elim));have HBK:=n8 p (c+mx) (mx-long) s bs w2 HS2.out (by omega) (by have:=HLEFT.out;omega);clear rI hk2 HSE;go_wp2_with fail;refine HBK.mono ?_;rintro e w3 ⟨rfl,An,hk3⟩;have HS3:Hid (St w3 p s bs (c+long)):=hid (by rw[show c+mx-(mx-long)=c+long by omega]at An;exact An);have HK3:Hid (Kept (·=p) w w3):=hid (HK2.out.trans hk3 (λ_ _ h=>h) (λ_ _ h=>h));clear An hk3 HBK;go_wp2_with fail;go_ret2;exact⟨⟨sym,long,er,rfl,by rw[HMIN.out,<-HR.out];exact HANS.out,HS3.out⟩,HK3.out⟩
 ·have HMIN:Hid (min left mx=left):=hid (by omega);go_wp2_with fail;go_quiet ((go_at_call 149;exact Calls.quiet_of (HL _)));have HT:=f8 p c left s bs (w.drewN nq) (HS.out.drewN nq) (by omega) (by omega) (by have:=HLEFT.out;omega);obtain⟨R,hR⟩:∃R,R=aN bs / 2 ^ c % 2 ^ left:=⟨_,rfl⟩
  rw[<-hR]at HT;have HR:Hid (R=aN bs / 2 ^ c % 2 ^ left):=hR;have Rj:R<4294967296:=by have h1:R<2 ^ left:=(by rw[hR];exact Nat.mod_lt _ (Nat.two_pow_pos _));have h2:2 ^ left<=2 ^ 15:=Nat.pow_le_pow_right (by omega) (by omega);have h3:(2:Nat) ^ 15=32768:=(by decide);omega
  clear hR;go_wp2_with fail;refine HT.mono ?_;rintro e w1 ⟨rfl,hst1,hk1⟩;have HS1:Hid (St w1 p s bs (c+left)):=hst1;have HK1:Hid (Kept (·=p) w w1):=hid (((Kept.refl (·=p) w).drewN nq).trans hk1 (λ_ _ h=>h) (λ_ _ h=>h));have HSE:=pI w1 d _ vs ns R left (HD.out.kept HK1.out (λk hk e=>HX.out k hk (.inl e))) (by have:=HMX.out;omega) hns (by have:=HMX.out;omega) Rj;clear hst1 hk1 HT;go_wp2_with fail;refine HSE.mono ?_;rintro e w2 ⟨⟨sym,long,er,rfl,rI⟩,hk2⟩;have HANS:Hid (Ans ns left R sym long er):=rI;have yf:long<=left:=by
   rcases rI with⟨_,_,_,h,_⟩ | ⟨_,_,h,_⟩ | ⟨_,_,h,_⟩
   ·exact h
   ·omega
   ·omega
  have ju:((left:Int)-(long:Int))=((left-long:Nat):Int):=(by omega);have HS2:Hid (St w2 p s bs (c+left)):=hid (HS1.out.kept hk2 (λ_ _ h=>h));have HK2:Hid (Kept (·=p) w w2):=hid (HK1.out.trans hk2 (λ_ _ h=>h) (λ_ _ h=>h.elim));have HBK:=n8 p (c+left) (left-long) s bs w2 HS2.out (by omega) (by have:=HLEFT.out;omega);clear rI hk2 HSE;go_wp2_with fail;refine HBK.mono ?_;rintro e w3 ⟨rfl,An,hk3⟩;have HS3:Hid (St w3 p s bs (c+long)):=hid (by rw[show c+left-(left-long)=c+long by omega]at An;exact An);have HK3:Hid (Kept (·=p) w w3):=hid (HK2.out.trans hk3 (λ_ _ h=>h) (λ_ _ h=>h));clear An hk3 HBK;go_wp2_with fail;go_ret2;exact⟨⟨sym,long,er,rfl,by rw[HMIN.out,<-HR.out];exact HANS.out,HS3.out⟩,HK3.out⟩
theorem D5(w:World)(rv':Value):Calls Tryz.prog 184 #[.pointer none,rv'] w λe w'=>e=.returned (.tuple #[.int .i64 0,.int .i64 3])/\w'=w:=by go_enter Tryz.func184,Tryz.ntmps184;go_wp2_with fail;go_ret2;exact⟨rfl,rfl⟩
end Go.Proofs.YtllcnlnbpikhdaaGreatDoor
