import Derived.Test.YtkhagfgineifhaaGreatDoorLnMany
import Derived.Test.YtkhagfgineifhaaGreatDoorLnPack2
set_option maxHeartbeats 2000000
set_option maxRecDepth 100000
namespace Go.Proofs.YtkhagfgineifhaaGreatDoor
open Go.RowKit
theorem BJ(v n:Nat)(h:1<=n):eI v n≠[]:=by
 unfold eI;split
 ·by_cases QE:11<=n
  ·rw[gT n QE];simp
  ·by_cases h3:3<=n
   ·rw[g6 n (by omega) h3];simp
   ·rw[gZ n (by omega)];cases n with
    | zero=>omega
    | succ n=>simp[List.replicate_succ]
 ·simp
theorem SrcE.tail2{w:World}{I:Nat→Prop}{b o cap:Nat}{l:List Nat}(h:SrcE am w I (.slice (some ⟨b,o,none⟩) l.length cap) l)(k:Nat)(hk:k≤l.length):
  SrcE am w I (.slice (if cap=k then some ⟨b,o,none⟩else some ⟨b,o+k,none⟩) (l.length-k) (cap-k)) (l.drop k):=by
 obtain⟨ao,cap',e,hc,_⟩:=id h;simp only[Value.slice.injEq]at e;obtain⟨_,_,rfl⟩:=e;split
 ·exact h.tail k o hk (λh2=>by omega)
 ·exact h.tail k (o+k) hk (λ_=>rfl)
theorem RowC.at{α:Type}{B t k:Nat}{enc:α->List Value}(ok:dJ enc k){w:World}{g n cap:Nat}{xs:List α}(h:RowC B t k enc w (.slice (some ⟨g,0,none⟩) n cap) xs):aS w ⟨g,0,none⟩ (xs.flatMap enc):=by
 have hl:=h.len;subst hl;intro j u hu;have hj:j<(xs.flatMap enc).length:=(List.getElem?_eq_some_iff.1 hu).1;rw[aK ok]at hj;have e:(⟨g,0,none⟩:Addr).add j=⟨g,j,none⟩:=by unfold Addr.add;split<;>simp_all
 rw[e,h.cellAt j hj,hu]
theorem zI(w:World)(v:Value)(I:Nat→Prop)(zs:List Int)(ns:List Nat)(hs:SrcE bI w I v zs)(hl:zs.length≤316)(hok:cG zs=true)(hns:ns=zs.map Int.toNat):
  Calls Tryz.prog 125 #[v] w λe w'=>∃v',e=.returned (.tuple #[v',.int .i64 0])/\fN w.heap.size w' v' (ba ns)/\Same w w':=by
 have hb:=(fh zs).1 hok;have eN:ns.map am=zs.map bI:=by rw[hns,List.map_map];refine List.map_congr_left (λz hz=>?_);simp only[Function.comp,am,bI];rw[Int.toNat_of_nonneg (hb z hz).1]
 obtain⟨ao,cap,rfl,ic,gh⟩:=id hs;clear ic gh;have HCT:=lz w _ I zs hs (by omega);rw[hok]at HCT;have HS:Hid (SrcE am w I (.slice ao zs.length cap) ns):=hid (hs.recode eN);have rO:zs.length=ns.length:=by rw[hns];simp
 obtain⟨L,hL⟩:∃L,L=zs.length:=⟨_,rfl⟩
 rw[<-hL]at HCT HS hl ⊢;have HL:Hid (L=ns.length):=hid (by omega);have b1:decide ((316:Int)<(L:Int))=false:=by simp;omega
 clear hs hb hok hns eN rO hL;go_enter Tryz.func125,Tryz.ntmps125;go_wp2_with fail;refine HCT.mono ?_;rintro e w1 ⟨rfl,hw1⟩;subst hw1;clear HCT;go_wp2_with fail;clear b1;go_loopg [0,5,6] L (λq zl zo _ wr=>∃(i d:Nat) (a2:Option Addr) (c2:Nat) (ss:List (Int×Int)),d<=q/\i+d=L/\zl=.slice a2 d c2/\Hid (SrcE am w1 I (.slice a2 d c2) (ns.drop i))/\Hid (ba ns=ss++ba (ns.drop i)/\ss.length<=i)/\Hid (fN w1.heap.size wr zo ss)/\Hid (Same w1 wr))
 case atStart=>exact⟨0,L,ao,cap,[],by omega,by omega,rfl,hid (by simpa using HS.out),hid ⟨by simp,by simp⟩,RowC.nil,Kept.refl _ _⟩
 case round=>
  clear HS;obtain⟨i,d,a2,c2,ss,hq,hi,rfl,HS,HP,HO,HK⟩:=hrel;by_cases hlt:0<d
  ·have yK:i<ns.length:=(by have:=HL.out;omega);have NV:ns.drop i=ns[i]::ns.drop (i+1):=List.drop_eq_getElem_cons yK;obtain⟨y,hy⟩:∃y,y=ns[i]:=⟨_,rfl⟩
   rw[<-hy]at NV;obtain⟨r,hr⟩:∃r,r=ns.drop (i+1):=⟨_,rfl⟩
   rw[<-hr]at NV;have ag:(y::r).length=d:=(by rw[<-NV,List.length_drop];have:=HL.out;omega);have hS2:=HS.out;rw[NV]at hS2;obtain⟨b,o,cap',e,_,_,cx⟩:=hS2.get 0 (by simp);simp only[Value.slice.injEq]at e;obtain⟨rfl,jC,rfl⟩:=e;clear jC;have SO:wr.cell? ⟨b,o,none⟩=some (.int .i64 (y:Nat)):=HK.out.cell cx (λf=>f);rw[<-ag]at hS2;have HAL:=Ej wr b o c2 I y r (hS2.same HK.out) (by omega);have hf:=kP y r;obtain⟨n,hn⟩:∃n,n=1+bJ y r:=⟨_,rfl⟩
   have hn1:1<=n:=(by omega);have rO:n<=d:=(by simp at ag;omega);have HT2:Hid (SrcE am w1 I (.slice (if c2=n then some ⟨b,o,none⟩else some ⟨b,o+n,none⟩) (d-n) (c2-n)) (ns.drop (i+n))):=hid (by
    have h:=hS2.tail2 n (by omega);rw[ag,<-NV,List.drop_drop]at h;exact h)
   have HP2:Hid (ba ns=ss++(eI y n++ba (ns.drop (i+n)))):=hid (by
    rw[HP.out.1];have h:=zh ns i n yK (by rw[<-hy,<-hr];exact hn);rw[<-hy]at h;rw[h])
   have HSL:Hid ((eI y n).length<=n/\eI y n≠[]):=hid ⟨xK y n hn1,BJ y n hn1⟩;rw[<-hn,ag]at HAL;clear ag NV hy hr hS2 cx hn hf;go_wp2_with fail;refine HAL.mono ?_;rintro e w2 ⟨rfl,hk2⟩;have HK2:Hid (Same wr w2):=hk2;have Xq:w2.cell? ⟨b,o,none⟩=some (.int .i64 (y:Nat)):=hk2.cell SO (λf=>f);have HPR:=yj w2 y n (by omega) hn1;clear hk2 HAL SO;go_wp2_with fail;refine HPR.mono ?_;rintro e w3 ⟨v3,rfl,hr3,hk3⟩;obtain⟨Y8,lp,sk,jW,_⟩:=hr3.shape;obtain⟨g3,rfl⟩:=jW HSL.out.2;subst sk;obtain⟨m3,hm3⟩:∃m,m=(eI y n).length:=⟨_,rfl⟩
   rw[<-hm3]at hr3 ⊢;have HR3:Hid (fN w2.heap.size w3 (.slice (some ⟨g3,0,none⟩) m3 lp) (eI y n)):=hr3;have HK3:Hid (Same wr w3):=hid (Same.trans HK2.out hk3);have HC3:Hid (aS w3 ⟨g3,0,none⟩ ((eI y n).flatMap km)):=hid (RowC.at stC_ok hr3);have HM3:Hid ((eI y n).length=m3):=hid hm3.symm;have UW:ss.length+(eI y n).length<=1000:=(by have h1:=HP.out.2;have h2:=HSL.out.1;omega);have uV:w1.heap.size<=w3.heap.size:=(by have h1:=HK.out.size;have h2:=HK3.out.size;omega);clear hr3 hk3 HPR hm3 jW Xq;have nG:(0:Int)<=(n:Int):=(by omega);go_wp2_with (at_builtin;refine dW _ km 2 stC_ok (by decide) w1.heap.size 180 226 (.agg #[.int .i64 0,.int .i64 0]) 16 Tryz.underlying180 Tryz.infoSt rfl (by decide) rfl (.tmp 20) (.tmp 25) rfl u5 ss rfl (RowC.kept HO.out HK3.out (λ_ _ f=>f)) ⟨g3,0,none⟩ m3 lp (eI y n) rfl HM3.out HC3.out (by omega) uV ?_;intro v5 w5 hr5 ef;have HR5:Hid (fN w1.heap.size w5 v5 (ss++eI y n)):=hr5;have HK5:Hid (Same w1 w5):=hid ((Same.trans HK.out HK3.out).grown ef (λj e=>.inr (HO.out.ge e)));clear hr5 ef)
   all_goals
    go_roundg (gk-1)
    case measure=>omega
    case rel=>exact⟨i+n,d-n,_,_,ss++eI y n,by omega,by omega,rfl,hid (by first | simpa using HT2.out | simpa[*]using HT2.out),hid ⟨by rw[HP2.out,List.append_assoc],by have h1:=HP.out.2;have h2:=HSL.out.1;simp;omega⟩,HR5,HK5⟩
  ·have EZ:d=0:=(by omega);have HE:Hid (ba ns=ss):=hid (by rw[HP.out.1,List.drop_eq_nil_of_le (by have:=HL.out;omega)];simp[ba]);subst EZ;clear hlt;go_wp2_with fail;go_ret2;exact⟨_,rfl,by rw[HE.out];exact HO.out,HK.out⟩
theorem CN(w:World)(v:Value)(I:Nat→Prop)(zs:List Int)(hs:SrcE bI w I v zs)(hn:zs.length≤10000000)(hb:316<zs.length∨cG zs=false):
  Calls Tryz.prog 125 #[v] w λe w'=>e=.returned (.tuple #[.slice none 0 0,.int .i64 1])/\Same w w':=by
 obtain⟨ao,cap,rfl,ic,gh⟩:=id hs;clear ic gh;have HCT:=lz w _ I zs hs hn;clear hs;by_cases hl:316<zs.length
 ·have b1:decide ((316:Int)<(zs.length:Int))=true:=(by simp;omega);clear hb hl;go_enter Tryz.func125,Tryz.ntmps125;go_wp2_with fail;go_ret2;exact⟨rfl,Kept.refl _ _⟩
 ·have b1:decide ((316:Int)<(zs.length:Int))=false:=(by simp;omega);have hok:cG zs=false:=by rcases hb with h | h;omega;exact h
  rw[hok]at HCT;clear hb hl hok;go_enter Tryz.func125,Tryz.ntmps125;go_wp2_with fail;refine HCT.mono ?_;rintro e w1 ⟨rfl,hw1⟩;subst hw1;clear HCT;go_wp2_with fail;go_ret2;exact⟨rfl,Kept.refl _ _⟩
theorem CE(w:World)(v:Value)(I:Nat→Prop)(zs:List Int)(hs:SrcE bI w I v zs)(hn:zs.length≤10000000):
  Calls Tryz.prog 125 #[v] w λe w'=>Od w w' e (sP zs):=by
 by_cases hb:316<zs.length\/cG zs=false
 ·rw[Eo hb];exact CN w v I zs hs hn hb
 ·have h2:cG zs=true:=by
   cases h:cG zs with
   | true=>rfl
   | false=>exact absurd (.inr h) hb
  have h1:zs.length<=316:=Nat.le_of_not_lt (λh=>hb (.inl h));rw[qA h1 h2];exact zI w v I zs _ hs h1 h2 rfl
end Go.Proofs.YtkhagfgineifhaaGreatDoor
