import Derived.Test.YtkhagfgineifhaaGreatDoorHIns
set_option maxHeartbeats 2000000
set_option maxRecDepth 100000
namespace Go.Proofs.YtkhagfgineifhaaGreatDoor
open Go.RowKit
structure Parts(ns A B:List Nat):Prop where
 sa:Sorted ns A
 sb:Sorted ns B
 ahead:Ahead A B
 ma:∀x∈A,x<ns.length
 mb:∀x∈B,x<ns.length
structure Mem(w:World)(B g n cap bx:Nat)(I:Nat->Prop)(ns d:List Nat):Prop where
 row:NRow B w (.slice (some ⟨g,0,none⟩) n cap) d
 cmp:Cmp w bx I ns
 hbx:bx≠g
 hI:∀k,I k->k≠g
 hn:n<=1000000
 hns:ns.length<=1000000
theorem Mem.drewN{w:World}{B g n cap bx:Nat}{I:Nat->Prop}{ns d:List Nat}(h:Mem w B g n cap bx I ns d)(k:Nat):Mem (w.drewN k) B g n cap bx I ns d:=⟨h.row,⟨h.cmp.ex⟩,h.hbx,h.hI,h.hn,h.hns⟩
theorem Mem.to{w w':World}{B g n cap bx:Nat}{I:Nat->Prop}{ns d d':List Nat}(h:Mem w B g n cap bx I ns d)(hr:NRow B w' (.slice (some ⟨g,0,none⟩) n cap) d')(hk:Kept (·=g) w w'):Mem w' B g n cap bx I ns d':=
 ⟨hr,h.cmp.kept hk (λe=>h.hbx e) (λk hk _ e=>h.hI k hk e),h.hbx,h.hI,h.hn,h.hns⟩
theorem Mem.at{w:World}{B g n cap bx:Nat}{I:Nat->Prop}{ns d:List Nat}(h:Mem w B g n cap bx I ns d)(j:Nat)(hj:j<d.length):w.cell? ⟨g,j,none⟩=some (.int .i64 ((d[j]:Nat):Int)):=h.row.cell j hj
def oA(w w':World)(B g n cap bx:Nat)(I:Nat->Prop)(ns P L R S:List Nat):Prop:=
 ∃C,C.Perm (L++R)/\Sorted ns C/\Mem w' B g n cap bx I ns (P++C++S)/\Kept (·=g) w w'
theorem bL{ns A B C1 C2:List Nat}{i j:Nat}(hx:AllLt ns (A.take i++B.take j) (A.drop i++B.drop j))(p1:C1.Perm (A.take i++B.take j))(s1:Sorted ns C1)(p2:C2.Perm (A.drop i++B.drop j))(s2:Sorted ns C2):
  (C1++C2).Perm (A++B)/\Sorted ns (C1++C2):=by
 refine⟨?_,s1.append s2 (hx.perm p1 p2)⟩;refine(p1.append p2).trans ?_;have e:(A.take i++B.take j++(A.drop i++B.drop j)).Perm (A.take i++A.drop i++(B.take j++B.drop j)):=by rw[List.append_assoc,List.append_assoc];refine List.Perm.append_left _ ?_;rw[<-List.append_assoc,<-List.append_assoc];exact List.Perm.append_right _ List.perm_append_comm
 rw[List.take_append_drop,List.take_append_drop]at e;exact e
theorem JK(w:World)(B g n cap bx a m b:Nat)(I:Nat→Prop)(ns P R S:List Nat)(x:Nat)(hM:Mem w B g n cap bx I ns (P++[x]++R++S))(hP:Parts ns [x] R)(ha:a=P.length)(hm:m=P.length+1)(hb:b=P.length+1+R.length):
  Calls Tryz.prog 203 #[.slice (some ⟨g,0,none⟩) n cap,.int .i64 (a:Nat),.int .i64 (m:Nat),.int .i64 (b:Nat),oZ bx] w λe w'=>(∃v,e=.returned v)/\oA w w' B g n cap bx I ns P [x] R S:=by
 have ag:=hM.row.len;simp at ag;have hn:=hM.hn;have HM:Hid (Mem w B g n cap bx I ns (P++[x]++R++S)):=hM;have HP:Hid (Parts ns [x] R):=hP;have HA:Hid (a=P.length/\m=P.length+1/\b=P.length+1+R.length/\m=a+1/\P.length+1+R.length+S.length=n):=by exact⟨ha,hm,hb,by omega,by omega⟩
 have hd:((m:Int)-(a:Int))=1:=by omega
 have Sb:m<=b/\b<=n/\a<n/\a<m:=by omega
 clear ag hM hP ha hm hb;go_enter Tryz.func203,Tryz.ntmps203;go_wp2_with fail;go_loopg [10,11] (b-m) (λq zi zj wr=>∃(i j:Nat),j-i<=q/\m<=i/\i<=j/\j<=b/\zi=.int .i64 (i:Nat)/\zj=.int .i64 (j:Nat)/\Hid ((i=m\/∃h:i-1-m<R.length,m<i/\Lt ns R[i-1-m] x)/\(j=b\/∃h:j-m<R.length,Lt ns x R[j-m]))/\Hid (Mem wr B g n cap bx I ns (P++[x]++R++S))/\Hid (Kept (·=g) w wr))
 case atStart=>exact⟨m,b,by omega,by omega,by omega,by omega,rfl,rfl,⟨.inl rfl,.inl rfl⟩,HM.out,Kept.refl _ w⟩
 case round=>
  obtain⟨i,j,hq,Vy,Hy,Xi,rfl,rfl,HF,HM2,HK2⟩:=hrel;clear HM;by_cases hlt:i<j
  ·obtain⟨h,hh⟩:∃h,h=(i+j) / 2:=⟨_,rfl⟩
   have yR:i<=h/\h<j:=(by omega);have MG:((i:Int)+(j:Int)) / 2=(h:Int):=(by omega);have hR:h-m<R.length:=(by have:=HA.out;omega);obtain⟨y,hy⟩:∃y,y=R[h-m]:=⟨_,rfl⟩
   have cx:wr.cell? ⟨g,a,none⟩=some (.int .i64 (x:Int)):=(by have hc:=HM2.out.at a (by have:=HA.out;simp;omega);rw[hc];congr 3;have:=HA.out.1;subst this;simp);have cy:wr.cell? ⟨g,h,none⟩=some (.int .i64 (y:Int)):=(by have hc:=HM2.out.at h (by have:=HA.out;simp;omega);rw[hc];congr 3;rw[List.getElem_append_left (by have:=HA.out;simp;omega),List.getElem_append_right (by have:=HA.out;simp;omega)];rw[hy];congr 1;have:=HA.out;simp;omega);have yP:y∈R:=(by rw[hy];exact List.getElem_mem _);have tP:x<y:=HP.out.ahead x (by simp) y yP;have HL:=ni wr bx I ns HM2.out.cmp HM2.out.hns y x (HP.out.mb y yP) (HP.out.ma x (by simp));have HY:Hid (y=R[h-m]):=hy;clear hh hy yP;by_cases hk:key ns y<key ns x
   ·have pz:=pQ hk;have HLT:Hid (Lt ns y x):=(Lt.iff_of_gt tP).2 hk;generalize tF (key ns y) (key ns x)=cz at HL pz;clear hk;go_wp2_with fail;go_quiet ((go_at_call 180;exact Calls.quiet_of (HL _)));go_wp2_with fail;go_roundg (gk-1)
    case measure=>omega
    case rel=>
     refine⟨h+1,j,by omega,by omega,by omega,by omega,by go_num,rfl,⟨.inr ⟨by simpa[show h+1-1-m=h-m by omega]using hR,by omega,?_⟩,HF.out.2⟩,HM2.out.drewN _,HK2.out.drewN _⟩;have:=HLT.out;rw[HY.out]at this;simpa[show h+1-1-m=h-m by omega]using this
   ·have pz:=qg hk;have HLT:Hid (Lt ns x y):=Lt.of_not tP hk;generalize tF (key ns y) (key ns x)=cz at HL pz;clear hk;go_wp2_with fail;go_quiet ((go_at_call 180;exact Calls.quiet_of (HL _)));go_wp2_with fail;go_roundg (gk-1)
    case measure=>omega
    case rel=>
     refine⟨i,h,by omega,by omega,by omega,by omega,rfl,rfl,⟨HF.out.1,.inr ⟨hR,?_⟩⟩,HM2.out.drewN _,HK2.out.drewN _⟩;have:=HLT.out;rw[HY.out]at this;exact this
  ·have M3:i=j:=(by omega);subst M3;have jE:((i:Int)-1)=((i-1:Nat):Int):=(by omega);go_wp2_with fail;go_loopg [13] (i-1-a) (λq z wk=>∃k:Nat,i-1-k<=q/\a<=k/\k<=i-1/\z=.int .i64 (k:Nat)/\Hid (Mem wk B g n cap bx I ns (P++R.take (k-a)++x::R.drop (k-a)++S))/\Hid (Kept (·=g) w wk))
   case atStart=>exact⟨a,by omega,by omega,by omega,rfl,by have h:=HM2.out;exact hid (by simpa using h),HK2.out⟩
   case round=>
    obtain⟨k,Lx,Yi,VQ,rfl,HM3,HK3⟩:=hrel;clear HM2 HK2;by_cases EG:k<i-1
    ·have hR:k-a<R.length:=(by have:=HA.out;omega);obtain⟨y,hy⟩:∃y,y=R[k-a]:=⟨_,rfl⟩
     have pM:NRow B wr (.slice (some ⟨g,0,none⟩) n cap) ((P++R.take (k-a))++x::[]++y::(R.drop (k-a+1)++S)):=(by have h:=HM3.out.row;rw[List.drop_eq_getElem_cons hR,<-hy]at h;simpa using h);have e1:k=(P++R.take (k-a)).length:=(by have:=HA.out;simp;omega);have e2:k+1=(P++R.take (k-a)).length+1+([]:List Nat).length:=(by have:=HA.out;simp;omega);obtain⟨c1,c2,f1,f2,l1,l2,bm⟩:=ky pM e1 e2;have HR4:Hid (NRow B ((wr.setCell ⟨g,k,none⟩ (am y)).setCell ⟨g,k+1,none⟩ (am x)) (.slice (some ⟨g,0,none⟩) n cap) (P++R.take (k+1-a)++x::R.drop (k+1-a)++S)):=(by have h:=BI pM e1 e2;have h5:NRow B ((wr.setCell ⟨g,k,none⟩ (am y)).setCell ⟨g,k+1,none⟩ (am x)) (.slice (some ⟨g,0,none⟩) n cap) (P++R.take (k+1-a)++x::R.drop (k+1-a)++S):=(by rw[show k+1-a=(k-a)+1 by omega,List.take_succ_eq_append_getElem hR,<-hy];simpa using h);exact h5);unfold am at c1 c2;clear pM e1 e2 hy;go_wp2_with fail;go_region
     all_goals
      go_wp2_with fail;go_roundg (gk-1)
      case measure=>omega
      case rel=>
       have hk':Kept (·=g) wr (((wr.setCell ⟨g,k,none⟩ (am y)).setCell ⟨g,k+1,none⟩ (am x))):=((Kept.refl (·=g) wr).setCell ⟨g,k,none⟩ _ (.inl rfl)).setCell ⟨g,k+1,none⟩ _ (.inl rfl);exact⟨k+1,by omega,by omega,by omega,by go_num,HM3.out.to HR4.out hk'.drew,((HK3.out.setCell ⟨g,k,none⟩ _ (.inl rfl)).setCell ⟨g,k+1,none⟩ _ (.inl rfl)).drew⟩
    ·have e:k=i-1:=(by omega);subst e;go_wp2_with fail;refine bodyPost_ret (results_none rfl _ _ _) rfl ?_;refine⟨⟨_,rfl⟩,R.take (i-1-a)++x::R.drop (i-1-a),?_⟩;have Uj:i-1-a=i-m:=(by have:=HA.out;omega);have V1:=HA.out;have hF:=HF.out;have hsr:=HP.out.sb;have x1:AllLt ns (List.take 0 [x]++R.take (i-m)) (List.drop 0 [x]++R.drop (i-m)):=by
      refine i5 0 (i-m) HP.out.sa hsr (.inl rfl) ?_;rcases hF.1 with h | ⟨h1,h2,h3⟩
      ·left;omega
      ·right;right;exact⟨⟨by omega,by omega,by simp⟩,by simpa[show i-m-1=i-1-m by omega]using h3⟩
     have x2:AllLt ns (List.take 1 [x]++R.take (i-m)) (List.drop 1 [x]++R.drop (i-m)):=by
      refine i5 1 (i-m) HP.out.sa hsr ?_ (.inr (.inl (by simp)));rcases hF.2 with h | ⟨h1,h3⟩
      ·right;left;omega
      ·right;right;exact⟨⟨by omega,by simp,by omega⟩,by simpa using h3⟩
     have st:Sorted ns (x::R.drop (i-m)):=List.pairwise_cons.2 ⟨λz hz=>x2 x (by simp) z (by simpa using hz),by have h:=hsr;rw[<-List.take_append_drop (i-m) R]at h;exact Sorted.right h⟩;have s1:Sorted ns (R.take (i-m)):=(by have h:=hsr;rw[<-List.take_append_drop (i-m) R]at h;exact Sorted.left h);have hh:=bL x1 (C1:=R.take (i-m)) (C2:=x::R.drop (i-m)) (by simp) s1 (by simp) st;rw[Uj];refine⟨hh.1,hh.2,?_,HK3.out⟩;have h:=HM3.out;rw[Uj]at h;simpa using h
theorem Hc(w:World)(B g n cap bx a m b:Nat)(I:Nat→Prop)(ns P L S:List Nat)(y:Nat)(hM:Mem w B g n cap bx I ns (P++L++[y]++S))(hP:Parts ns L [y])(ha:a=P.length)(hm:m=P.length+L.length)(hb:b=P.length+L.length+1)(hL:1<L.length):
  Calls Tryz.prog 203 #[.slice (some ⟨g,0,none⟩) n cap,.int .i64 (a:Nat),.int .i64 (m:Nat),.int .i64 (b:Nat),oZ bx] w λe w'=>(∃v,e=.returned v)/\oA w w' B g n cap bx I ns P L [y] S:=by
 have ag:=hM.row.len;simp at ag;have hn:=hM.hn;have HM:Hid (Mem w B g n cap bx I ns (P++L++[y]++S)):=hM;have HP:Hid (Parts ns L [y]):=hP;have HA:Hid (a=P.length/\m=P.length+L.length/\b=P.length+L.length+1/\b=m+1/\P.length+L.length+1+S.length=n):=by exact⟨ha,hm,hb,by omega,by omega⟩
 have IV:((m:Int)-(a:Int)==1)=false:=by simp;omega
 have hd:((b:Int)-(m:Int))=1:=by omega
 have Sb:a<=m/\m<n/\m<b:=by omega
 clear ag hM hP ha hm hb hL;go_enter Tryz.func203,Tryz.ntmps203;go_wp2_with fail;go_loopg [14,15] (m-a) (λq zi zj wr=>∃(i j:Nat),j-i<=q/\a<=i/\i<=j/\j<=m/\zi=.int .i64 (i:Nat)/\zj=.int .i64 (j:Nat)/\Hid ((i=a\/∃h:i-1-a<L.length,a<i/\Lt ns L[i-1-a] y)/\(j=m\/∃h:j-a<L.length,Lt ns y L[j-a]))/\Hid (Mem wr B g n cap bx I ns (P++L++[y]++S))/\Hid (Kept (·=g) w wr))
 case atStart=>exact⟨a,m,by omega,by omega,by omega,by omega,rfl,rfl,⟨.inl rfl,.inl rfl⟩,HM.out,Kept.refl _ w⟩
 case round=>
  obtain⟨i,j,hq,Vy,Hy,Xi,rfl,rfl,HF,HM2,HK2⟩:=hrel;clear HM;by_cases hlt:i<j
  ·obtain⟨h,hh⟩:∃h,h=(i+j) / 2:=⟨_,rfl⟩
   have yR:i<=h/\h<j:=(by omega);have MG:((i:Int)+(j:Int)) / 2=(h:Int):=(by omega);have hR:h-a<L.length:=(by have:=HA.out;omega);obtain⟨x,hx⟩:∃x,x=L[h-a]:=⟨_,rfl⟩
   have cy:wr.cell? ⟨g,m,none⟩=some (.int .i64 (y:Int)):=(by have hc:=HM2.out.at m (by have:=HA.out;simp;omega);rw[hc];congr 3;rw[List.getElem_append_left (by have:=HA.out;simp;omega),List.getElem_append_right (by have:=HA.out;simp;omega)];simp);have cx:wr.cell? ⟨g,h,none⟩=some (.int .i64 (x:Int)):=(by have hc:=HM2.out.at h (by have:=HA.out;simp;omega);rw[hc];congr 3;rw[List.getElem_append_left (by have:=HA.out;simp;omega),List.getElem_append_left (by have:=HA.out;simp;omega),List.getElem_append_right (by have:=HA.out;omega)];rw[hx];congr 1;have:=HA.out;omega);have yQ:x∈L:=(by rw[hx];exact List.getElem_mem _);have tP:x<y:=HP.out.ahead x yQ y (by simp);have HL:=ni wr bx I ns HM2.out.cmp HM2.out.hns y x (HP.out.mb y (by simp)) (HP.out.ma x yQ);have HY:Hid (x=L[h-a]):=hx;clear hh hx yQ;by_cases hk:key ns y<key ns x
   ·have pz:=pQ hk;have HLT:Hid (Lt ns y x):=(Lt.iff_of_gt tP).2 hk;generalize tF (key ns y) (key ns x)=cz at HL pz;clear hk;go_wp2_with fail;go_quiet ((go_at_call 180;exact Calls.quiet_of (HL _)));go_wp2_with fail;go_roundg (gk-1)
    case measure=>omega
    case rel=>
     refine⟨i,h,by omega,by omega,by omega,by omega,rfl,rfl,⟨HF.out.1,.inr ⟨hR,?_⟩⟩,HM2.out.drewN _,HK2.out.drewN _⟩;have:=HLT.out;rw[HY.out]at this;exact this
   ·have pz:=qg hk;have HLT:Hid (Lt ns x y):=Lt.of_not tP hk;generalize tF (key ns y) (key ns x)=cz at HL pz;clear hk;go_wp2_with fail;go_quiet ((go_at_call 180;exact Calls.quiet_of (HL _)));go_wp2_with fail;go_roundg (gk-1)
    case measure=>omega
    case rel=>
     refine⟨h+1,j,by omega,by omega,by omega,by omega,by go_num,rfl,⟨.inr ⟨by simpa[show h+1-1-a=h-a by omega]using hR,by omega,?_⟩,HF.out.2⟩,HM2.out.drewN _,HK2.out.drewN _⟩;have:=HLT.out;rw[HY.out]at this;simpa[show h+1-1-a=h-a by omega]using this
  ·have M3:i=j:=(by omega);subst M3;go_wp2_with fail;go_loopg [17] (m-i) (λq z wk=>∃k:Nat,k-i<=q/\i<=k/\k<=m/\z=.int .i64 (k:Nat)/\Hid (Mem wk B g n cap bx I ns (P++L.take (k-a)++y::L.drop (k-a)++S))/\Hid (Kept (·=g) w wk))
   case atStart=>
    refine⟨m,by omega,by omega,by omega,rfl,?_,HK2.out⟩;have h:=HM2.out;have e1:L.take (m-a)=L:=List.take_of_length_le (by have:=HA.out;omega);have e2:L.drop (m-a)=[]:=List.drop_eq_nil_of_le (by have:=HA.out;omega);exact hid (by rw[e1,e2];simpa using h)
   case round=>
    obtain⟨k,Lx,Yi,VQ,rfl,HM3,HK3⟩:=hrel;clear HM2 HK2;by_cases EG:i<k
    ·have hR:k-1-a<L.length:=(by have:=HA.out;omega);have jE:((k:Int)-1)=((k-1:Nat):Int):=(by omega);obtain⟨x,hx⟩:∃x,x=L[k-1-a]:=⟨_,rfl⟩
     have pM:NRow B wr (.slice (some ⟨g,0,none⟩) n cap) ((P++L.take (k-1-a))++x::[]++y::(L.drop (k-a)++S)):=(by have h:=HM3.out.row;rw[show k-a=(k-1-a)+1 by omega,List.take_succ_eq_append_getElem hR,<-hx,<-show k-a=(k-1-a)+1 by omega]at h;simpa using h);have e1:k-1=(P++L.take (k-1-a)).length:=(by have:=HA.out;simp;omega);have e2:k=(P++L.take (k-1-a)).length+1+([]:List Nat).length:=(by have:=HA.out;simp;omega);obtain⟨c1,c2,f1,f2,l1,l2,bm⟩:=ky pM e1 e2;have HR4:Hid (NRow B ((wr.setCell ⟨g,k,none⟩ (am x)).setCell ⟨g,k-1,none⟩ (am y)) (.slice (some ⟨g,0,none⟩) n cap) (P++L.take (k-1-a)++y::L.drop (k-1-a)++S)):=(by have h:=xP pM e1 e2;have h5:NRow B ((wr.setCell ⟨g,k,none⟩ (am x)).setCell ⟨g,k-1,none⟩ (am y)) (.slice (some ⟨g,0,none⟩) n cap) (P++L.take (k-1-a)++y::L.drop (k-1-a)++S):=(by rw[List.drop_eq_getElem_cons hR,<-hx,<-show k-a=(k-1-a)+1 by omega];simpa using h);exact h5);unfold am at c1 c2;clear pM e1 e2 hx;go_wp2_with fail;go_region
     all_goals
      go_wp2_with fail;go_roundg (gk-1)
      case measure=>omega
      case rel=>
       have hk':Kept (·=g) wr (((wr.setCell ⟨g,k,none⟩ (am x)).setCell ⟨g,k-1,none⟩ (am y))):=((Kept.refl (·=g) wr).setCell ⟨g,k,none⟩ _ (.inl rfl)).setCell ⟨g,k-1,none⟩ _ (.inl rfl);exact⟨k-1,by omega,by omega,by omega,by congr 1,HM3.out.to HR4.out hk'.drew,((HK3.out.setCell ⟨g,k,none⟩ _ (.inl rfl)).setCell ⟨g,k-1,none⟩ _ (.inl rfl)).drew⟩
    ·have e:k=i:=(by omega);subst e;go_wp2_with fail;refine bodyPost_ret (results_none rfl _ _ _) rfl ?_;refine⟨⟨_,rfl⟩,L.take (k-a)++y::L.drop (k-a),?_⟩;have V1:=HA.out;have hF:=HF.out;have hsl:=HP.out.sa;have x1:AllLt ns (L.take (k-a)++List.take 0 [y]) (L.drop (k-a)++List.drop 0 [y]):=by
      refine i5 (k-a) 0 hsl HP.out.sb ?_ (.inl rfl);rcases hF.1 with h | ⟨h1,h2,h3⟩
      ·left;omega
      ·right;right;exact⟨⟨by omega,by omega,by simp⟩,by simpa[show k-a-1=k-1-a by omega]using h3⟩
     have x2:AllLt ns (L.take (k-a)++List.take 1 [y]) (L.drop (k-a)++List.drop 1 [y]):=by
      refine i5 (k-a) 1 hsl HP.out.sb (.inr (.inl (by simp))) ?_;rcases hF.2 with h | ⟨h1,h3⟩
      ·right;left;omega
      ·right;right;exact⟨⟨by omega,by simp,by omega⟩,by simpa using h3⟩
     have st:Sorted ns (y::L.drop (k-a)):=List.pairwise_cons.2 ⟨λz hz=>x2 y (by simp) z (by simpa using hz),by have h:=hsl;rw[<-List.take_append_drop (k-a) L]at h;exact Sorted.right h⟩;have s1:Sorted ns (L.take (k-a)):=(by have h:=hsl;rw[<-List.take_append_drop (k-a) L]at h;exact Sorted.left h);have hh:=bL x1 (C1:=L.take (k-a)) (C2:=y::L.drop (k-a)) (by simp) s1 (List.perm_append_comm (l₁:=[y])) st;refine⟨hh.1,hh.2,?_,HK3.out⟩;have h:=HM3.out;simpa using h
end Go.Proofs.YtkhagfgineifhaaGreatDoor
