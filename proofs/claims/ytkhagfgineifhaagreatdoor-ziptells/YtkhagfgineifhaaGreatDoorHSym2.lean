import Derived.Test.YtkhagfgineifhaaGreatDoorHSym
set_option maxHeartbeats 4000000
set_option maxRecDepth 100000
namespace Go.Proofs.YtkhagfgineifhaaGreatDoor
open Go.RowKit
theorem Parts.cut{ns A B A' B':List Nat}(h:Parts ns A B)(hA:∀x∈A',x∈A)(hB:∀x∈B',x∈B)(sa:Sorted ns A')(sb:Sorted ns B'):Parts ns A' B':=
 ⟨sa,sb,h.ahead.sub hA hB,λx hx=>h.ma x (hA x hx),λx hx=>h.mb x (hB x hx)⟩
theorem Aw(P L R S:List Nat)(i j:Nat):P++L++R++S=P++L.take i++L.drop i++R.take j++(R.drop j++S):=by
 conv=>lhs;rw[<-List.take_append_drop i L,<-List.take_append_drop j R]
 simp only[List.append_assoc]
theorem BQ{P L R S:List Nat}{i j:Nat}(h:L.drop i=[]\/R.take j=[]):P++L.take i++R.take j++L.drop i++R.drop j++S=P++L++R++S:=by rw[Aw P L R S i j];rcases h with h | h<;>simp only[h,List.append_nil,List.append_assoc]
theorem FJ(k B g n cap bx:Nat)(I:Nat→Prop)(ns:List Nat)
  (ih:∀k',k'<k->∀(w:World) (a m b:Nat) (P L R S:List Nat),b-a<=k'->Mem w B g n cap bx I ns (P++L++R++S)->Parts ns L R->a=P.length->m=P.length+L.length->b=P.length+L.length+R.length->0<L.length->0<R.length ->
   Calls Tryz.prog 203 #[.slice (some ⟨g,0,none⟩) n cap,.int .i64 (a:Nat),.int .i64 (m:Nat),.int .i64 (b:Nat),oZ bx] w λe w'=>(∃v,e=.returned v)/\oA w w' B g n cap bx I ns P L R S)
  (w:World) (a m b:Nat) (P L R S:List Nat) (hk:b-a<=k) (hM:Mem w B g n cap bx I ns (P++L++R++S)) (hP:Parts ns L R) (ha:a=P.length) (hm:m=P.length+L.length) (hb:b=P.length+L.length+R.length) (hL:1<L.length) (hR:1<R.length):
  Calls Tryz.prog 203 #[.slice (some ⟨g,0,none⟩) n cap,.int .i64 (a:Nat),.int .i64 (m:Nat),.int .i64 (b:Nat),oZ bx] w λe w'=>(∃v,e=.returned v)/\oA w w' B g n cap bx I ns P L R S:=by
 have ag:=hM.row.len;simp at ag;have hn:=hM.hn;have IH:Hid (∀k',k'<k→∀(w:World) (a m b:Nat) (P L R S:List Nat),b-a≤k'→Mem w B g n cap bx I ns (P++L++R++S)→Parts ns L R→a=P.length→m=P.length+L.length→b=P.length+L.length+R.length→0<L.length→0<R.length →
   Calls Tryz.prog 203 #[.slice (some ⟨g,0,none⟩) n cap,.int .i64 (a:Nat),.int .i64 (m:Nat),.int .i64 (b:Nat),oZ bx] w λe w'=>(∃v,e=.returned v)/\oA w w' B g n cap bx I ns P L R S):=ih
 have HM:Hid (Mem w B g n cap bx I ns (P++L++R++S)):=hM;have HP:Hid (Parts ns L R):=hP;have HA:Hid (a=P.length/\m=P.length+L.length/\b=P.length+L.length+R.length/\P.length+L.length+R.length+S.length=n):=by exact⟨ha,hm,hb,by omega⟩
 have IV:((m:Int)-(a:Int)==1)=false:=by simp;omega
 have Cq:((b:Int)-(m:Int)==1)=false:=by simp;omega
 have Fa:a+1<m/\m+1<b/\b<=n:=by omega
 obtain⟨mid,MG⟩:∃mid,mid=(a+b) / 2:=⟨_,rfl⟩
 obtain⟨N,hN⟩:∃N,N=mid+m:=⟨_,rfl⟩
 have TG:((a:Int)+(b:Int)) / 2=(mid:Int):=by omega
 have Xt:((mid:Int)+(m:Int))=(N:Int):=by omega
 have Pi:2*mid<=a+b/\a+b<=2*mid+1:=by omega
 have YP:N<=mid+m/\mid+m<=N:=by omega
 clear ag hM hP ha hm hb ih hL hR MG hN;go_enter Tryz.func203,Tryz.ntmps203;by_cases NO:mid<m
 ·have CB:((N:Int)-(b:Int))=((N-b:Nat):Int):=(by omega);have H0:Hid (mid<m):=NO;go_wp2_with fail;go_loopg [20,21] (b-a) (λq zi zj wr=>∃(s r:Nat),r-s<=q/\N-b<=s/\s<=r/\r<=mid/\zi=.int .i64 (s:Nat)/\zj=.int .i64 (r:Nat)/\Hid ((s=N-b\/∃(h1:s-1-a<L.length) (h2:N-s-m<R.length),a<s/\Lt ns L[s-1-a] R[N-s-m])/\(r=mid\/∃(h1:N-1-r-m<R.length) (h2:r-a<L.length),Lt ns R[N-1-r-m] L[r-a]))/\Hid (Mem wr B g n cap bx I ns (P++L++R++S))/\Hid (Kept (·=g) w wr))
  case atStart=>exact⟨N-b,mid,by omega,by omega,by omega,by omega,rfl,rfl,⟨.inl rfl,.inl rfl⟩,HM.out,Kept.refl _ w⟩
  case round=>
   obtain⟨s,r,hq,CB,hsr,pM,rfl,rfl,HF,HM2,HK2⟩:=hrel;clear HM;by_cases hlt:s<r
   ·obtain⟨c,hc⟩:∃c,c=(s+r) / 2:=⟨_,rfl⟩
    have Pp:s<=c/\c<r:=(by omega);have O4:((s:Int)+(r:Int)) / 2=(c:Int):=(by omega);have hp:((N:Int)-1-(c:Int))=((N-1-c:Nat):Int):=(by omega);have MP:N-1-c<n/\c<n:=(by omega);have iL:c-a<L.length:=(by have:=HA.out;omega);have iR:N-1-c-m<R.length:=(by have:=HA.out;omega);obtain⟨x,hx⟩:∃x,x=L[c-a]:=⟨_,rfl⟩
    obtain⟨y,hy⟩:∃y,y=R[N-1-c-m]:=⟨_,rfl⟩
    have cx:wr.cell? ⟨g,c,none⟩=some (.int .i64 (x:Int)):=(by have hc:=HM2.out.at c (by have:=HA.out;simp;omega);rw[hc];congr 3;rw[List.getElem_append_left (by have:=HA.out;simp;omega),List.getElem_append_left (by have:=HA.out;simp;omega),List.getElem_append_right (by have:=HA.out;omega)];rw[hx];congr 1;have:=HA.out;omega);have cy:wr.cell? ⟨g,N-1-c,none⟩=some (.int .i64 (y:Int)):=(by have hc:=HM2.out.at (N-1-c) (by have:=HA.out;simp;omega);rw[hc];congr 3;rw[List.getElem_append_left (by have:=HA.out;simp;omega),List.getElem_append_right (by have:=HA.out;simp;omega)];rw[hy];congr 1;have:=HA.out;simp;omega);have yQ:x∈L:=(by rw[hx];exact List.getElem_mem _);have yP:y∈R:=(by rw[hy];exact List.getElem_mem _);have tP:x<y:=HP.out.ahead x yQ y yP;have HL:=ni wr bx I ns HM2.out.cmp HM2.out.hns y x (HP.out.mb y yP) (HP.out.ma x yQ);have HX:Hid (x=L[c-a]):=hx;have HY:Hid (y=R[N-1-c-m]):=hy;clear hc hx hy yQ yP IH;by_cases hk:key ns y<key ns x
    ·have pz:=pQ hk;have HLT:Hid (Lt ns y x):=(Lt.iff_of_gt tP).2 hk;generalize tF (key ns y) (key ns x)=cz at HL pz;clear hk;go_wp2_with fail;go_quiet ((go_at_call 180;exact Calls.quiet_of (HL _)));go_wp2_with fail;go_roundg (gk-1)
     case measure=>omega
     case rel=>
      refine⟨s,c,by omega,by omega,by omega,by omega,rfl,rfl,⟨HF.out.1,.inr ⟨iR,iL,?_⟩⟩,HM2.out.drewN _,HK2.out.drewN _⟩;have h:=HLT.out;rw[HX.out,HY.out]at h;exact h
    ·have pz:=qg hk;have HLT:Hid (Lt ns x y):=Lt.of_not tP hk;generalize tF (key ns y) (key ns x)=cz at HL pz;clear hk;go_wp2_with fail;go_quiet ((go_at_call 180;exact Calls.quiet_of (HL _)));go_wp2_with fail;go_roundg (gk-1)
     case measure=>omega
     case rel=>
      refine⟨c+1,r,by omega,by omega,by omega,by omega,by go_num,rfl,⟨.inr ⟨by simpa using iL,by simpa[show N-(c+1)-m=N-1-c-m by omega]using iR,by omega,?_⟩,HF.out.2⟩,HM2.out.drewN _,HK2.out.drewN _⟩;have h:=HLT.out;rw[HX.out,HY.out]at h;simpa[show N-(c+1)-m=N-1-c-m by omega]using h
   ·have Na:s=r:=(by omega);subst Na;have CR:Hid (AllLt ns (L.take (s-a)++R.take (N-s-m)) (L.drop (s-a)++R.drop (N-s-m))):=by
     refine i5 (s-a) (N-s-m) HP.out.sa HP.out.sb ?_ ?_
     ·rcases HF.out.1 with h | ⟨h1,h2,h3,h4⟩
      ·right;left;have:=HA.out;omega
      ·right;right;exact⟨⟨by omega,by omega,h2⟩,by simpa[show s-a-1=s-1-a by omega]using h4⟩
     ·rcases HF.out.2 with h | ⟨h1,h2,h3⟩
      ·left;omega
      ·by_cases h5:N-s-m=0
       ·left;exact h5
       ·right;right;exact⟨⟨by omega,by have:=HA.out;omega,h2⟩,by simpa[show N-s-m-1=N-1-s-m by omega]using h3⟩
    have Iu:((N:Int)-(s:Int))=((N-s:Nat):Int):=(by omega);have PA:Hid (Parts ns (L.take (s-a)) (R.take (N-s-m))):=hid (HP.out.cut (λx h=>List.mem_of_mem_take h) (λx h=>List.mem_of_mem_take h) (List.Pairwise.sublist (List.take_sublist _ _) HP.out.sa) (List.Pairwise.sublist (List.take_sublist _ _) HP.out.sb));have PB:Hid (Parts ns (L.drop (s-a)) (R.drop (N-s-m))):=hid (HP.out.cut (λx h=>List.mem_of_mem_drop h) (λx h=>List.mem_of_mem_drop h) (List.Pairwise.sublist (List.drop_sublist _ _) HP.out.sa) (List.Pairwise.sublist (List.drop_sublist _ _) HP.out.sb));by_cases hβ:s<mid
    ·by_cases hγ:s<m
     ·have HROT:=pS wr B g n cap s m (N-s) (oZ bx) (P++L.take (s-a)) (L.drop (s-a)) (R.take (N-s-m)) (R.drop (N-s-m)++S) (by have:=HA.out;simp;omega) (by have:=HA.out;simp;omega) (by have h:=HM2.out.row;rw[Aw P L R S (s-a) (N-s-m)]at h;exact h) (by have:=HA.out;simp;omega) (by have:=HA.out;simp;omega) (by have:=HA.out;simp;omega) hn;by_cases hα:a<s
      ·by_cases hδ:N-s<b
       ·go_wp2_with fail
        all_goals
         refine HROT.mono ?_;rintro e wq ⟨⟨vq,rfl⟩,hrq,hkq⟩;have HMq:Hid (Mem wq B g n cap bx I ns (P++L.take (s-a)++R.take (N-s-m)++L.drop (s-a)++R.drop (N-s-m)++S)):=hid ((HM2.out.to (d':=P++L.take (s-a)++R.take (N-s-m)++L.drop (s-a)++R.drop (N-s-m)++S) (by simpa only[List.append_assoc]using hrq) hkq));have HKq:Hid (Kept (·=g) w wq):=HK2.out.trans hkq (λ_ _ h=>h) (λ_ _ h=>h);clear hrq hkq HROT;have HC1:=IH.out (mid-a) (by omega) wq a s mid P (L.take (s-a)) (R.take (N-s-m)) (L.drop (s-a)++R.drop (N-s-m)++S) (by omega) (by simpa only[List.append_assoc]using HMq.out) PA.out (by have:=HA.out;omega) (by have:=HA.out;simp;omega) (by have:=HA.out;simp;omega) (by have:=HA.out;simp;omega) (by have:=HA.out;simp;omega);go_wp2_with fail;refine HC1.mono ?_;rintro e wp ⟨⟨vp,rfl⟩,C1,p1,s1,hm1,hk1⟩;have HMp:Hid (Mem wp B g n cap bx I ns (P++C1++(L.drop (s-a)++R.drop (N-s-m)++S))):=hm1;have HKp:Hid (Kept (·=g) w wp):=HKq.out.trans hk1 (λ_ _ h=>h) (λ_ _ h=>h);have HS1:Hid (C1.Perm (L.take (s-a)++R.take (N-s-m))/\Sorted ns C1):=⟨p1,s1⟩
         clear hm1 hk1 p1 s1 HC1;have HC2:=IH.out (b-mid) (by omega) wp mid (N-s) b (P++C1) (L.drop (s-a)) (R.drop (N-s-m)) S (by omega) (by simpa only[List.append_assoc]using HMp.out) PB.out (by have:=HA.out;have:=HS1.out.1.length_eq;simp at this ⊢;omega) (by have:=HA.out;have:=HS1.out.1.length_eq;simp at this ⊢;omega) (by have:=HA.out;have:=HS1.out.1.length_eq;simp at this ⊢;omega) (by have:=HA.out;simp;omega) (by have:=HA.out;simp;omega);go_wp2_with fail;refine HC2.mono ?_;rintro e wz ⟨⟨vz,rfl⟩,C2,p2,s2,ip,hk2⟩;have HMz:Hid (Mem wz B g n cap bx I ns (P++C1++C2++S)):=ip;have HKz:Hid (Kept (·=g) w wz):=HKp.out.trans hk2 (λ_ _ h=>h) (λ_ _ h=>h);have HS2:Hid (C2.Perm (L.drop (s-a)++R.drop (N-s-m))/\Sorted ns C2):=⟨p2,s2⟩
         clear ip hk2 p2 s2 HC2;go_wp2_with fail;go_end0;have hh:=bL CR.out HS1.out.1 HS1.out.2 HS2.out.1 HS2.out.2;exact⟨⟨_,rfl⟩,C1++C2,hh.1,hh.2,by simpa only[List.append_assoc]using HMz.out,HKz.out⟩
       ·have S2:Hid (Sorted ns (L.drop (s-a)++R.drop (N-s-m))):=hid (by rw[List.drop_eq_nil_of_le (show R.length<=N-s-m by have:=HA.out;omega),List.append_nil];exact PB.out.sa);go_wp2_with fail
        all_goals
         refine HROT.mono ?_;rintro e wq ⟨⟨vq,rfl⟩,hrq,hkq⟩;have HMq:Hid (Mem wq B g n cap bx I ns (P++L.take (s-a)++R.take (N-s-m)++L.drop (s-a)++R.drop (N-s-m)++S)):=hid ((HM2.out.to (d':=P++L.take (s-a)++R.take (N-s-m)++L.drop (s-a)++R.drop (N-s-m)++S) (by simpa only[List.append_assoc]using hrq) hkq));have HKq:Hid (Kept (·=g) w wq):=HK2.out.trans hkq (λ_ _ h=>h) (λ_ _ h=>h);clear hrq hkq HROT;have HC1:=IH.out (mid-a) (by omega) wq a s mid P (L.take (s-a)) (R.take (N-s-m)) (L.drop (s-a)++R.drop (N-s-m)++S) (by omega) (by simpa only[List.append_assoc]using HMq.out) PA.out (by have:=HA.out;omega) (by have:=HA.out;simp;omega) (by have:=HA.out;simp;omega) (by have:=HA.out;simp;omega) (by have:=HA.out;simp;omega);go_wp2_with fail;refine HC1.mono ?_;rintro e wp ⟨⟨vp,rfl⟩,C1,p1,s1,hm1,hk1⟩;have HMp:Hid (Mem wp B g n cap bx I ns (P++C1++(L.drop (s-a)++R.drop (N-s-m)++S))):=hm1;have HKp:Hid (Kept (·=g) w wp):=HKq.out.trans hk1 (λ_ _ h=>h) (λ_ _ h=>h);have HS1:Hid (C1.Perm (L.take (s-a)++R.take (N-s-m))/\Sorted ns C1):=⟨p1,s1⟩
         clear hm1 hk1 p1 s1 HC1;obtain⟨C2,HS2,HMz⟩:∃C2,Hid (C2.Perm (L.drop (s-a)++R.drop (N-s-m))/\Sorted ns C2)/\Hid (Mem wp B g n cap bx I ns (P++C1++C2++S)):=⟨_,⟨List.Perm.refl _,S2.out⟩,hid (by have h:=HMp.out;simpa only[List.append_assoc]using h)⟩
         have HKz:=HKp;go_wp2_with fail;go_end0;have hh:=bL CR.out HS1.out.1 HS1.out.2 HS2.out.1 HS2.out.2;exact⟨⟨_,rfl⟩,C1++C2,hh.1,hh.2,by simpa only[List.append_assoc]using HMz.out,HKz.out⟩
      ·have S1:Hid (Sorted ns (L.take (s-a)++R.take (N-s-m))):=hid (by rw[show s-a=0 by omega,List.take_zero,List.nil_append];exact PA.out.sb);by_cases hδ:N-s<b
       ·go_wp2_with fail
        all_goals
         refine HROT.mono ?_;rintro e wq ⟨⟨vq,rfl⟩,hrq,hkq⟩;have HMq:Hid (Mem wq B g n cap bx I ns (P++L.take (s-a)++R.take (N-s-m)++L.drop (s-a)++R.drop (N-s-m)++S)):=hid ((HM2.out.to (d':=P++L.take (s-a)++R.take (N-s-m)++L.drop (s-a)++R.drop (N-s-m)++S) (by simpa only[List.append_assoc]using hrq) hkq));have HKq:Hid (Kept (·=g) w wq):=HK2.out.trans hkq (λ_ _ h=>h) (λ_ _ h=>h);clear hrq hkq HROT;obtain⟨C1,HS1,HMp⟩:∃C1,Hid (C1.Perm (L.take (s-a)++R.take (N-s-m))/\Sorted ns C1)/\Hid (Mem wq B g n cap bx I ns (P++C1++(L.drop (s-a)++R.drop (N-s-m)++S))):=⟨_,⟨List.Perm.refl _,S1.out⟩,hid (by have h:=HMq.out;simpa only[List.append_assoc]using h)⟩
         have HKp:=HKq;have HC2:=IH.out (b-mid) (by omega) wq mid (N-s) b (P++C1) (L.drop (s-a)) (R.drop (N-s-m)) S (by omega) (by simpa only[List.append_assoc]using HMp.out) PB.out (by have:=HA.out;have:=HS1.out.1.length_eq;simp at this ⊢;omega) (by have:=HA.out;have:=HS1.out.1.length_eq;simp at this ⊢;omega) (by have:=HA.out;have:=HS1.out.1.length_eq;simp at this ⊢;omega) (by have:=HA.out;simp;omega) (by have:=HA.out;simp;omega);go_wp2_with fail;refine HC2.mono ?_;rintro e wz ⟨⟨vz,rfl⟩,C2,p2,s2,ip,hk2⟩;have HMz:Hid (Mem wz B g n cap bx I ns (P++C1++C2++S)):=ip;have HKz:Hid (Kept (·=g) w wz):=HKp.out.trans hk2 (λ_ _ h=>h) (λ_ _ h=>h);have HS2:Hid (C2.Perm (L.drop (s-a)++R.drop (N-s-m))/\Sorted ns C2):=⟨p2,s2⟩
         clear ip hk2 p2 s2 HC2;go_wp2_with fail;go_end0;have hh:=bL CR.out HS1.out.1 HS1.out.2 HS2.out.1 HS2.out.2;exact⟨⟨_,rfl⟩,C1++C2,hh.1,hh.2,by simpa only[List.append_assoc]using HMz.out,HKz.out⟩
       ·have S2:Hid (Sorted ns (L.drop (s-a)++R.drop (N-s-m))):=hid (by rw[List.drop_eq_nil_of_le (show R.length<=N-s-m by have:=HA.out;omega),List.append_nil];exact PB.out.sa);go_wp2_with fail
        all_goals
         refine HROT.mono ?_;rintro e wq ⟨⟨vq,rfl⟩,hrq,hkq⟩;have HMq:Hid (Mem wq B g n cap bx I ns (P++L.take (s-a)++R.take (N-s-m)++L.drop (s-a)++R.drop (N-s-m)++S)):=hid ((HM2.out.to (d':=P++L.take (s-a)++R.take (N-s-m)++L.drop (s-a)++R.drop (N-s-m)++S) (by simpa only[List.append_assoc]using hrq) hkq));have HKq:Hid (Kept (·=g) w wq):=HK2.out.trans hkq (λ_ _ h=>h) (λ_ _ h=>h);clear hrq hkq HROT;obtain⟨C1,HS1,HMp⟩:∃C1,Hid (C1.Perm (L.take (s-a)++R.take (N-s-m))/\Sorted ns C1)/\Hid (Mem wq B g n cap bx I ns (P++C1++(L.drop (s-a)++R.drop (N-s-m)++S))):=⟨_,⟨List.Perm.refl _,S1.out⟩,hid (by have h:=HMq.out;simpa only[List.append_assoc]using h)⟩
         have HKp:=HKq;obtain⟨C2,HS2,HMz⟩:∃C2,Hid (C2.Perm (L.drop (s-a)++R.drop (N-s-m))/\Sorted ns C2)/\Hid (Mem wq B g n cap bx I ns (P++C1++C2++S)):=⟨_,⟨List.Perm.refl _,S2.out⟩,hid (by have h:=HMp.out;simpa only[List.append_assoc]using h)⟩
         have HKz:=HKp;go_wp2_with fail;go_end0;have hh:=bL CR.out HS1.out.1 HS1.out.2 HS2.out.1 HS2.out.2;exact⟨⟨_,rfl⟩,C1++C2,hh.1,hh.2,by simpa only[List.append_assoc]using HMz.out,HKz.out⟩
     ·have eL:L.drop (s-a)=[]:=List.drop_eq_nil_of_le (by have:=HA.out;omega);have HSAME:Hid (P++L.take (s-a)++R.take (N-s-m)++L.drop (s-a)++R.drop (N-s-m)++S=P++L++R++S):=hid (BQ (.inl eL));have S2:Hid (Sorted ns (L.drop (s-a)++R.drop (N-s-m))):=hid (by rw[eL,List.nil_append];exact PB.out.sb);clear eL;have jW:¬mid<N-s:=(by omega);by_cases hα:a<s
      ·have HMq:Hid (Mem wr B g n cap bx I ns (P++L.take (s-a)++R.take (N-s-m)++L.drop (s-a)++R.drop (N-s-m)++S)):=hid (by have h:=HM2.out;rw[<-HSAME.out]at h;exact h);have HKq:Hid (Kept (·=g) w wr):=HK2.out;have HC1:=IH.out (mid-a) (by omega) wr a s mid P (L.take (s-a)) (R.take (N-s-m)) (L.drop (s-a)++R.drop (N-s-m)++S) (by omega) (by simpa only[List.append_assoc]using HMq.out) PA.out (by have:=HA.out;omega) (by have:=HA.out;simp;omega) (by have:=HA.out;simp;omega) (by have:=HA.out;simp;omega) (by have:=HA.out;simp;omega);go_wp2_with fail
       all_goals
        refine HC1.mono ?_;rintro e wp ⟨⟨vp,rfl⟩,C1,p1,s1,hm1,hk1⟩;have HMp:Hid (Mem wp B g n cap bx I ns (P++C1++(L.drop (s-a)++R.drop (N-s-m)++S))):=hm1;have HKp:Hid (Kept (·=g) w wp):=HKq.out.trans hk1 (λ_ _ h=>h) (λ_ _ h=>h);have HS1:Hid (C1.Perm (L.take (s-a)++R.take (N-s-m))/\Sorted ns C1):=⟨p1,s1⟩
        clear hm1 hk1 p1 s1 HC1;obtain⟨C2,HS2,HMz⟩:∃C2,Hid (C2.Perm (L.drop (s-a)++R.drop (N-s-m))/\Sorted ns C2)/\Hid (Mem wp B g n cap bx I ns (P++C1++C2++S)):=⟨_,⟨List.Perm.refl _,S2.out⟩,hid (by have h:=HMp.out;simpa only[List.append_assoc]using h)⟩
        have HKz:=HKp;go_wp2_with fail;go_end0;have hh:=bL CR.out HS1.out.1 HS1.out.2 HS2.out.1 HS2.out.2;exact⟨⟨_,rfl⟩,C1++C2,hh.1,hh.2,by simpa only[List.append_assoc]using HMz.out,HKz.out⟩
      ·have S1:Hid (Sorted ns (L.take (s-a)++R.take (N-s-m))):=hid (by rw[show s-a=0 by omega,List.take_zero,List.nil_append];exact PA.out.sb);have HMq:Hid (Mem wr B g n cap bx I ns (P++L.take (s-a)++R.take (N-s-m)++L.drop (s-a)++R.drop (N-s-m)++S)):=hid (by have h:=HM2.out;rw[<-HSAME.out]at h;exact h);have HKq:Hid (Kept (·=g) w wr):=HK2.out;obtain⟨C1,HS1,HMp⟩:∃C1,Hid (C1.Perm (L.take (s-a)++R.take (N-s-m))/\Sorted ns C1)/\Hid (Mem wr B g n cap bx I ns (P++C1++(L.drop (s-a)++R.drop (N-s-m)++S))):=⟨_,⟨List.Perm.refl _,S1.out⟩,hid (by have h:=HMq.out;simpa only[List.append_assoc]using h)⟩
       have HKp:=HKq;obtain⟨C2,HS2,HMz⟩:∃C2,Hid (C2.Perm (L.drop (s-a)++R.drop (N-s-m))/\Sorted ns C2)/\Hid (Mem wr B g n cap bx I ns (P++C1++C2++S)):=⟨_,⟨List.Perm.refl _,S2.out⟩,hid (by have h:=HMp.out;simpa only[List.append_assoc]using h)⟩
       have HKz:=HKp;go_wp2_with fail
       all_goals
        go_end0;have hh:=bL CR.out HS1.out.1 HS1.out.2 HS2.out.1 HS2.out.2;exact⟨⟨_,rfl⟩,C1++C2,hh.1,hh.2,by simpa only[List.append_assoc]using HMz.out,HKz.out⟩
    ·have eR:R.take (N-s-m)=[]:=(by rw[show N-s-m=0 by omega];rfl);have HSAME:Hid (P++L.take (s-a)++R.take (N-s-m)++L.drop (s-a)++R.drop (N-s-m)++S=P++L++R++S):=hid (BQ (.inr eR));have S1:Hid (Sorted ns (L.take (s-a)++R.take (N-s-m))):=hid (by rw[eR,List.append_nil];exact PA.out.sa);clear eR;have pL:¬m<N-s:=(by omega);by_cases h3:s<m
     ·by_cases hδ:N-s<b
      ·by_cases hα:a<s
       ·have HMq:Hid (Mem wr B g n cap bx I ns (P++L.take (s-a)++R.take (N-s-m)++L.drop (s-a)++R.drop (N-s-m)++S)):=hid (by have h:=HM2.out;rw[<-HSAME.out]at h;exact h);have HKq:Hid (Kept (·=g) w wr):=HK2.out;obtain⟨C1,HS1,HMp⟩:∃C1,Hid (C1.Perm (L.take (s-a)++R.take (N-s-m))/\Sorted ns C1)/\Hid (Mem wr B g n cap bx I ns (P++C1++(L.drop (s-a)++R.drop (N-s-m)++S))):=⟨_,⟨List.Perm.refl _,S1.out⟩,hid (by have h:=HMq.out;simpa only[List.append_assoc]using h)⟩
        have HKp:=HKq;have HC2:=IH.out (b-mid) (by omega) wr mid (N-s) b (P++C1) (L.drop (s-a)) (R.drop (N-s-m)) S (by omega) (by simpa only[List.append_assoc]using HMp.out) PB.out (by have:=HA.out;have:=HS1.out.1.length_eq;simp at this ⊢;omega) (by have:=HA.out;have:=HS1.out.1.length_eq;simp at this ⊢;omega) (by have:=HA.out;have:=HS1.out.1.length_eq;simp at this ⊢;omega) (by have:=HA.out;simp;omega) (by have:=HA.out;simp;omega);go_wp2_with fail
        all_goals
         refine HC2.mono ?_;rintro e wz ⟨⟨vz,rfl⟩,C2,p2,s2,ip,hk2⟩;have HMz:Hid (Mem wz B g n cap bx I ns (P++C1++C2++S)):=ip;have HKz:Hid (Kept (·=g) w wz):=HKp.out.trans hk2 (λ_ _ h=>h) (λ_ _ h=>h);have HS2:Hid (C2.Perm (L.drop (s-a)++R.drop (N-s-m))/\Sorted ns C2):=⟨p2,s2⟩
         clear ip hk2 p2 s2 HC2;go_wp2_with fail;go_end0;have hh:=bL CR.out HS1.out.1 HS1.out.2 HS2.out.1 HS2.out.2;exact⟨⟨_,rfl⟩,C1++C2,hh.1,hh.2,by simpa only[List.append_assoc]using HMz.out,HKz.out⟩
       ·have HMq:Hid (Mem wr B g n cap bx I ns (P++L.take (s-a)++R.take (N-s-m)++L.drop (s-a)++R.drop (N-s-m)++S)):=hid (by have h:=HM2.out;rw[<-HSAME.out]at h;exact h);have HKq:Hid (Kept (·=g) w wr):=HK2.out;obtain⟨C1,HS1,HMp⟩:∃C1,Hid (C1.Perm (L.take (s-a)++R.take (N-s-m))/\Sorted ns C1)/\Hid (Mem wr B g n cap bx I ns (P++C1++(L.drop (s-a)++R.drop (N-s-m)++S))):=⟨_,⟨List.Perm.refl _,S1.out⟩,hid (by have h:=HMq.out;simpa only[List.append_assoc]using h)⟩
        have HKp:=HKq;have HC2:=IH.out (b-mid) (by omega) wr mid (N-s) b (P++C1) (L.drop (s-a)) (R.drop (N-s-m)) S (by omega) (by simpa only[List.append_assoc]using HMp.out) PB.out (by have:=HA.out;have:=HS1.out.1.length_eq;simp at this ⊢;omega) (by have:=HA.out;have:=HS1.out.1.length_eq;simp at this ⊢;omega) (by have:=HA.out;have:=HS1.out.1.length_eq;simp at this ⊢;omega) (by have:=HA.out;simp;omega) (by have:=HA.out;simp;omega);go_wp2_with fail
        all_goals
         refine HC2.mono ?_;rintro e wz ⟨⟨vz,rfl⟩,C2,p2,s2,ip,hk2⟩;have HMz:Hid (Mem wz B g n cap bx I ns (P++C1++C2++S)):=ip;have HKz:Hid (Kept (·=g) w wz):=HKp.out.trans hk2 (λ_ _ h=>h) (λ_ _ h=>h);have HS2:Hid (C2.Perm (L.drop (s-a)++R.drop (N-s-m))/\Sorted ns C2):=⟨p2,s2⟩
         clear ip hk2 p2 s2 HC2;go_wp2_with fail;go_end0;have hh:=bL CR.out HS1.out.1 HS1.out.2 HS2.out.1 HS2.out.2;exact⟨⟨_,rfl⟩,C1++C2,hh.1,hh.2,by simpa only[List.append_assoc]using HMz.out,HKz.out⟩
      ·have S2:Hid (Sorted ns (L.drop (s-a)++R.drop (N-s-m))):=hid (by rw[List.drop_eq_nil_of_le (show R.length<=N-s-m by have:=HA.out;omega),List.append_nil];exact PB.out.sa);by_cases hα:a<s
       ·have HMq:Hid (Mem wr B g n cap bx I ns (P++L.take (s-a)++R.take (N-s-m)++L.drop (s-a)++R.drop (N-s-m)++S)):=hid (by have h:=HM2.out;rw[<-HSAME.out]at h;exact h);have HKq:Hid (Kept (·=g) w wr):=HK2.out;obtain⟨C1,HS1,HMp⟩:∃C1,Hid (C1.Perm (L.take (s-a)++R.take (N-s-m))/\Sorted ns C1)/\Hid (Mem wr B g n cap bx I ns (P++C1++(L.drop (s-a)++R.drop (N-s-m)++S))):=⟨_,⟨List.Perm.refl _,S1.out⟩,hid (by have h:=HMq.out;simpa only[List.append_assoc]using h)⟩
        have HKp:=HKq;obtain⟨C2,HS2,HMz⟩:∃C2,Hid (C2.Perm (L.drop (s-a)++R.drop (N-s-m))/\Sorted ns C2)/\Hid (Mem wr B g n cap bx I ns (P++C1++C2++S)):=⟨_,⟨List.Perm.refl _,S2.out⟩,hid (by have h:=HMp.out;simpa only[List.append_assoc]using h)⟩
        have HKz:=HKp;go_wp2_with fail
        all_goals
         go_end0;have hh:=bL CR.out HS1.out.1 HS1.out.2 HS2.out.1 HS2.out.2;exact⟨⟨_,rfl⟩,C1++C2,hh.1,hh.2,by simpa only[List.append_assoc]using HMz.out,HKz.out⟩
       ·have HMq:Hid (Mem wr B g n cap bx I ns (P++L.take (s-a)++R.take (N-s-m)++L.drop (s-a)++R.drop (N-s-m)++S)):=hid (by have h:=HM2.out;rw[<-HSAME.out]at h;exact h);have HKq:Hid (Kept (·=g) w wr):=HK2.out;obtain⟨C1,HS1,HMp⟩:∃C1,Hid (C1.Perm (L.take (s-a)++R.take (N-s-m))/\Sorted ns C1)/\Hid (Mem wr B g n cap bx I ns (P++C1++(L.drop (s-a)++R.drop (N-s-m)++S))):=⟨_,⟨List.Perm.refl _,S1.out⟩,hid (by have h:=HMq.out;simpa only[List.append_assoc]using h)⟩
        have HKp:=HKq;obtain⟨C2,HS2,HMz⟩:∃C2,Hid (C2.Perm (L.drop (s-a)++R.drop (N-s-m))/\Sorted ns C2)/\Hid (Mem wr B g n cap bx I ns (P++C1++C2++S)):=⟨_,⟨List.Perm.refl _,S2.out⟩,hid (by have h:=HMp.out;simpa only[List.append_assoc]using h)⟩
        have HKz:=HKp;go_wp2_with fail
        all_goals
         go_end0;have hh:=bL CR.out HS1.out.1 HS1.out.2 HS2.out.1 HS2.out.2;exact⟨⟨_,rfl⟩,C1++C2,hh.1,hh.2,by simpa only[List.append_assoc]using HMz.out,HKz.out⟩
     ·have S2:Hid (Sorted ns (L.drop (s-a)++R.drop (N-s-m))):=hid (by rw[List.drop_eq_nil_of_le (show L.length<=s-a by have:=HA.out;omega),List.nil_append];exact PB.out.sb);have jW:¬mid<N-s:=(by omega);by_cases hα:a<s
      ·have HMq:Hid (Mem wr B g n cap bx I ns (P++L.take (s-a)++R.take (N-s-m)++L.drop (s-a)++R.drop (N-s-m)++S)):=hid (by have h:=HM2.out;rw[<-HSAME.out]at h;exact h);have HKq:Hid (Kept (·=g) w wr):=HK2.out;obtain⟨C1,HS1,HMp⟩:∃C1,Hid (C1.Perm (L.take (s-a)++R.take (N-s-m))/\Sorted ns C1)/\Hid (Mem wr B g n cap bx I ns (P++C1++(L.drop (s-a)++R.drop (N-s-m)++S))):=⟨_,⟨List.Perm.refl _,S1.out⟩,hid (by have h:=HMq.out;simpa only[List.append_assoc]using h)⟩
       have HKp:=HKq;obtain⟨C2,HS2,HMz⟩:∃C2,Hid (C2.Perm (L.drop (s-a)++R.drop (N-s-m))/\Sorted ns C2)/\Hid (Mem wr B g n cap bx I ns (P++C1++C2++S)):=⟨_,⟨List.Perm.refl _,S2.out⟩,hid (by have h:=HMp.out;simpa only[List.append_assoc]using h)⟩
       have HKz:=HKp;go_wp2_with fail
       all_goals
        go_end0;have hh:=bL CR.out HS1.out.1 HS1.out.2 HS2.out.1 HS2.out.2;exact⟨⟨_,rfl⟩,C1++C2,hh.1,hh.2,by simpa only[List.append_assoc]using HMz.out,HKz.out⟩
      ·have HMq:Hid (Mem wr B g n cap bx I ns (P++L.take (s-a)++R.take (N-s-m)++L.drop (s-a)++R.drop (N-s-m)++S)):=hid (by have h:=HM2.out;rw[<-HSAME.out]at h;exact h);have HKq:Hid (Kept (·=g) w wr):=HK2.out;obtain⟨C1,HS1,HMp⟩:∃C1,Hid (C1.Perm (L.take (s-a)++R.take (N-s-m))/\Sorted ns C1)/\Hid (Mem wr B g n cap bx I ns (P++C1++(L.drop (s-a)++R.drop (N-s-m)++S))):=⟨_,⟨List.Perm.refl _,S1.out⟩,hid (by have h:=HMq.out;simpa only[List.append_assoc]using h)⟩
       have HKp:=HKq;obtain⟨C2,HS2,HMz⟩:∃C2,Hid (C2.Perm (L.drop (s-a)++R.drop (N-s-m))/\Sorted ns C2)/\Hid (Mem wr B g n cap bx I ns (P++C1++C2++S)):=⟨_,⟨List.Perm.refl _,S2.out⟩,hid (by have h:=HMp.out;simpa only[List.append_assoc]using h)⟩
       have HKz:=HKp;go_wp2_with fail
       all_goals
        go_end0;have hh:=bL CR.out HS1.out.1 HS1.out.2 HS2.out.1 HS2.out.2;exact⟨⟨_,rfl⟩,C1++C2,hh.1,hh.2,by simpa only[List.append_assoc]using HMz.out,HKz.out⟩
 ·have H0:Hid (¬mid<m):=NO;go_wp2_with fail;go_loopg [20,21] (b-a) (λq zi zj wr=>∃(s r:Nat),r-s<=q/\a<=s/\s<=r/\r<=m/\zi=.int .i64 (s:Nat)/\zj=.int .i64 (r:Nat)/\Hid ((s=a\/∃(h1:s-1-a<L.length) (h2:N-s-m<R.length),a<s/\Lt ns L[s-1-a] R[N-s-m])/\(r=m\/∃(h1:N-1-r-m<R.length) (h2:r-a<L.length),Lt ns R[N-1-r-m] L[r-a]))/\Hid (Mem wr B g n cap bx I ns (P++L++R++S))/\Hid (Kept (·=g) w wr))
  case atStart=>exact⟨a,m,by omega,by omega,by omega,by omega,rfl,rfl,⟨.inl rfl,.inl rfl⟩,HM.out,Kept.refl _ w⟩
  case round=>
   obtain⟨s,r,hq,CB,hsr,pM,rfl,rfl,HF,HM2,HK2⟩:=hrel;clear HM;by_cases hlt:s<r
   ·obtain⟨c,hc⟩:∃c,c=(s+r) / 2:=⟨_,rfl⟩
    have Pp:s<=c/\c<r:=(by omega);have O4:((s:Int)+(r:Int)) / 2=(c:Int):=(by omega);have hp:((N:Int)-1-(c:Int))=((N-1-c:Nat):Int):=(by omega);have MP:N-1-c<n/\c<n:=(by omega);have iL:c-a<L.length:=(by have:=HA.out;omega);have iR:N-1-c-m<R.length:=(by have:=HA.out;omega);obtain⟨x,hx⟩:∃x,x=L[c-a]:=⟨_,rfl⟩
    obtain⟨y,hy⟩:∃y,y=R[N-1-c-m]:=⟨_,rfl⟩
    have cx:wr.cell? ⟨g,c,none⟩=some (.int .i64 (x:Int)):=(by have hc:=HM2.out.at c (by have:=HA.out;simp;omega);rw[hc];congr 3;rw[List.getElem_append_left (by have:=HA.out;simp;omega),List.getElem_append_left (by have:=HA.out;simp;omega),List.getElem_append_right (by have:=HA.out;omega)];rw[hx];congr 1;have:=HA.out;omega);have cy:wr.cell? ⟨g,N-1-c,none⟩=some (.int .i64 (y:Int)):=(by have hc:=HM2.out.at (N-1-c) (by have:=HA.out;simp;omega);rw[hc];congr 3;rw[List.getElem_append_left (by have:=HA.out;simp;omega),List.getElem_append_right (by have:=HA.out;simp;omega)];rw[hy];congr 1;have:=HA.out;simp;omega);have yQ:x∈L:=(by rw[hx];exact List.getElem_mem _);have yP:y∈R:=(by rw[hy];exact List.getElem_mem _);have tP:x<y:=HP.out.ahead x yQ y yP;have HL:=ni wr bx I ns HM2.out.cmp HM2.out.hns y x (HP.out.mb y yP) (HP.out.ma x yQ);have HX:Hid (x=L[c-a]):=hx;have HY:Hid (y=R[N-1-c-m]):=hy;clear hc hx hy yQ yP IH;by_cases hk:key ns y<key ns x
    ·have pz:=pQ hk;have HLT:Hid (Lt ns y x):=(Lt.iff_of_gt tP).2 hk;generalize tF (key ns y) (key ns x)=cz at HL pz;clear hk;go_wp2_with fail;go_quiet ((go_at_call 180;exact Calls.quiet_of (HL _)));go_wp2_with fail;go_roundg (gk-1)
     case measure=>omega
     case rel=>
      refine⟨s,c,by omega,by omega,by omega,by omega,rfl,rfl,⟨HF.out.1,.inr ⟨iR,iL,?_⟩⟩,HM2.out.drewN _,HK2.out.drewN _⟩;have h:=HLT.out;rw[HX.out,HY.out]at h;exact h
    ·have pz:=qg hk;have HLT:Hid (Lt ns x y):=Lt.of_not tP hk;generalize tF (key ns y) (key ns x)=cz at HL pz;clear hk;go_wp2_with fail;go_quiet ((go_at_call 180;exact Calls.quiet_of (HL _)));go_wp2_with fail;go_roundg (gk-1)
     case measure=>omega
     case rel=>
      refine⟨c+1,r,by omega,by omega,by omega,by omega,by go_num,rfl,⟨.inr ⟨by simpa using iL,by simpa[show N-(c+1)-m=N-1-c-m by omega]using iR,by omega,?_⟩,HF.out.2⟩,HM2.out.drewN _,HK2.out.drewN _⟩;have h:=HLT.out;rw[HX.out,HY.out]at h;simpa[show N-(c+1)-m=N-1-c-m by omega]using h
   ·have Na:s=r:=(by omega);subst Na;have CR:Hid (AllLt ns (L.take (s-a)++R.take (N-s-m)) (L.drop (s-a)++R.drop (N-s-m))):=by
     refine i5 (s-a) (N-s-m) HP.out.sa HP.out.sb ?_ ?_
     ·rcases HF.out.1 with h | ⟨h1,h2,h3,h4⟩
      ·left;omega
      ·right;right;exact⟨⟨by omega,by omega,h2⟩,by simpa[show s-a-1=s-1-a by omega]using h4⟩
     ·rcases HF.out.2 with h | ⟨h1,h2,h3⟩
      ·right;left;have:=HA.out;omega
      ·by_cases h5:N-s-m=0
       ·left;exact h5
       ·right;right;exact⟨⟨by omega,by have:=HA.out;omega,h2⟩,by simpa[show N-s-m-1=N-1-s-m by omega]using h3⟩
    have Iu:((N:Int)-(s:Int))=((N-s:Nat):Int):=(by omega);have PA:Hid (Parts ns (L.take (s-a)) (R.take (N-s-m))):=hid (HP.out.cut (λx h=>List.mem_of_mem_take h) (λx h=>List.mem_of_mem_take h) (List.Pairwise.sublist (List.take_sublist _ _) HP.out.sa) (List.Pairwise.sublist (List.take_sublist _ _) HP.out.sb));have PB:Hid (Parts ns (L.drop (s-a)) (R.drop (N-s-m))):=hid (HP.out.cut (λx h=>List.mem_of_mem_drop h) (λx h=>List.mem_of_mem_drop h) (List.Pairwise.sublist (List.drop_sublist _ _) HP.out.sa) (List.Pairwise.sublist (List.drop_sublist _ _) HP.out.sb));by_cases hβ:s<mid
    ·by_cases hγ:s<m
     ·have HROT:=pS wr B g n cap s m (N-s) (oZ bx) (P++L.take (s-a)) (L.drop (s-a)) (R.take (N-s-m)) (R.drop (N-s-m)++S) (by have:=HA.out;simp;omega) (by have:=HA.out;simp;omega) (by have h:=HM2.out.row;rw[Aw P L R S (s-a) (N-s-m)]at h;exact h) (by have:=HA.out;simp;omega) (by have:=HA.out;simp;omega) (by have:=HA.out;simp;omega) hn;by_cases hα:a<s
      ·by_cases hδ:N-s<b
       ·go_wp2_with fail
        all_goals
         refine HROT.mono ?_;rintro e wq ⟨⟨vq,rfl⟩,hrq,hkq⟩;have HMq:Hid (Mem wq B g n cap bx I ns (P++L.take (s-a)++R.take (N-s-m)++L.drop (s-a)++R.drop (N-s-m)++S)):=hid ((HM2.out.to (d':=P++L.take (s-a)++R.take (N-s-m)++L.drop (s-a)++R.drop (N-s-m)++S) (by simpa only[List.append_assoc]using hrq) hkq));have HKq:Hid (Kept (·=g) w wq):=HK2.out.trans hkq (λ_ _ h=>h) (λ_ _ h=>h);clear hrq hkq HROT;have HC1:=IH.out (mid-a) (by omega) wq a s mid P (L.take (s-a)) (R.take (N-s-m)) (L.drop (s-a)++R.drop (N-s-m)++S) (by omega) (by simpa only[List.append_assoc]using HMq.out) PA.out (by have:=HA.out;omega) (by have:=HA.out;simp;omega) (by have:=HA.out;simp;omega) (by have:=HA.out;simp;omega) (by have:=HA.out;simp;omega);go_wp2_with fail;refine HC1.mono ?_;rintro e wp ⟨⟨vp,rfl⟩,C1,p1,s1,hm1,hk1⟩;have HMp:Hid (Mem wp B g n cap bx I ns (P++C1++(L.drop (s-a)++R.drop (N-s-m)++S))):=hm1;have HKp:Hid (Kept (·=g) w wp):=HKq.out.trans hk1 (λ_ _ h=>h) (λ_ _ h=>h);have HS1:Hid (C1.Perm (L.take (s-a)++R.take (N-s-m))/\Sorted ns C1):=⟨p1,s1⟩
         clear hm1 hk1 p1 s1 HC1;have HC2:=IH.out (b-mid) (by omega) wp mid (N-s) b (P++C1) (L.drop (s-a)) (R.drop (N-s-m)) S (by omega) (by simpa only[List.append_assoc]using HMp.out) PB.out (by have:=HA.out;have:=HS1.out.1.length_eq;simp at this ⊢;omega) (by have:=HA.out;have:=HS1.out.1.length_eq;simp at this ⊢;omega) (by have:=HA.out;have:=HS1.out.1.length_eq;simp at this ⊢;omega) (by have:=HA.out;simp;omega) (by have:=HA.out;simp;omega);go_wp2_with fail;refine HC2.mono ?_;rintro e wz ⟨⟨vz,rfl⟩,C2,p2,s2,ip,hk2⟩;have HMz:Hid (Mem wz B g n cap bx I ns (P++C1++C2++S)):=ip;have HKz:Hid (Kept (·=g) w wz):=HKp.out.trans hk2 (λ_ _ h=>h) (λ_ _ h=>h);have HS2:Hid (C2.Perm (L.drop (s-a)++R.drop (N-s-m))/\Sorted ns C2):=⟨p2,s2⟩
         clear ip hk2 p2 s2 HC2;go_wp2_with fail;go_end0;have hh:=bL CR.out HS1.out.1 HS1.out.2 HS2.out.1 HS2.out.2;exact⟨⟨_,rfl⟩,C1++C2,hh.1,hh.2,by simpa only[List.append_assoc]using HMz.out,HKz.out⟩
       ·have S2:Hid (Sorted ns (L.drop (s-a)++R.drop (N-s-m))):=hid (by rw[List.drop_eq_nil_of_le (show R.length<=N-s-m by have:=HA.out;omega),List.append_nil];exact PB.out.sa);go_wp2_with fail
        all_goals
         refine HROT.mono ?_;rintro e wq ⟨⟨vq,rfl⟩,hrq,hkq⟩;have HMq:Hid (Mem wq B g n cap bx I ns (P++L.take (s-a)++R.take (N-s-m)++L.drop (s-a)++R.drop (N-s-m)++S)):=hid ((HM2.out.to (d':=P++L.take (s-a)++R.take (N-s-m)++L.drop (s-a)++R.drop (N-s-m)++S) (by simpa only[List.append_assoc]using hrq) hkq));have HKq:Hid (Kept (·=g) w wq):=HK2.out.trans hkq (λ_ _ h=>h) (λ_ _ h=>h);clear hrq hkq HROT;have HC1:=IH.out (mid-a) (by omega) wq a s mid P (L.take (s-a)) (R.take (N-s-m)) (L.drop (s-a)++R.drop (N-s-m)++S) (by omega) (by simpa only[List.append_assoc]using HMq.out) PA.out (by have:=HA.out;omega) (by have:=HA.out;simp;omega) (by have:=HA.out;simp;omega) (by have:=HA.out;simp;omega) (by have:=HA.out;simp;omega);go_wp2_with fail;refine HC1.mono ?_;rintro e wp ⟨⟨vp,rfl⟩,C1,p1,s1,hm1,hk1⟩;have HMp:Hid (Mem wp B g n cap bx I ns (P++C1++(L.drop (s-a)++R.drop (N-s-m)++S))):=hm1;have HKp:Hid (Kept (·=g) w wp):=HKq.out.trans hk1 (λ_ _ h=>h) (λ_ _ h=>h);have HS1:Hid (C1.Perm (L.take (s-a)++R.take (N-s-m))/\Sorted ns C1):=⟨p1,s1⟩
         clear hm1 hk1 p1 s1 HC1;obtain⟨C2,HS2,HMz⟩:∃C2,Hid (C2.Perm (L.drop (s-a)++R.drop (N-s-m))/\Sorted ns C2)/\Hid (Mem wp B g n cap bx I ns (P++C1++C2++S)):=⟨_,⟨List.Perm.refl _,S2.out⟩,hid (by have h:=HMp.out;simpa only[List.append_assoc]using h)⟩
         have HKz:=HKp;go_wp2_with fail;go_end0;have hh:=bL CR.out HS1.out.1 HS1.out.2 HS2.out.1 HS2.out.2;exact⟨⟨_,rfl⟩,C1++C2,hh.1,hh.2,by simpa only[List.append_assoc]using HMz.out,HKz.out⟩
      ·have S1:Hid (Sorted ns (L.take (s-a)++R.take (N-s-m))):=hid (by rw[show s-a=0 by omega,List.take_zero,List.nil_append];exact PA.out.sb);by_cases hδ:N-s<b
       ·go_wp2_with fail
        all_goals
         refine HROT.mono ?_;rintro e wq ⟨⟨vq,rfl⟩,hrq,hkq⟩;have HMq:Hid (Mem wq B g n cap bx I ns (P++L.take (s-a)++R.take (N-s-m)++L.drop (s-a)++R.drop (N-s-m)++S)):=hid ((HM2.out.to (d':=P++L.take (s-a)++R.take (N-s-m)++L.drop (s-a)++R.drop (N-s-m)++S) (by simpa only[List.append_assoc]using hrq) hkq));have HKq:Hid (Kept (·=g) w wq):=HK2.out.trans hkq (λ_ _ h=>h) (λ_ _ h=>h);clear hrq hkq HROT;obtain⟨C1,HS1,HMp⟩:∃C1,Hid (C1.Perm (L.take (s-a)++R.take (N-s-m))/\Sorted ns C1)/\Hid (Mem wq B g n cap bx I ns (P++C1++(L.drop (s-a)++R.drop (N-s-m)++S))):=⟨_,⟨List.Perm.refl _,S1.out⟩,hid (by have h:=HMq.out;simpa only[List.append_assoc]using h)⟩
         have HKp:=HKq;have HC2:=IH.out (b-mid) (by omega) wq mid (N-s) b (P++C1) (L.drop (s-a)) (R.drop (N-s-m)) S (by omega) (by simpa only[List.append_assoc]using HMp.out) PB.out (by have:=HA.out;have:=HS1.out.1.length_eq;simp at this ⊢;omega) (by have:=HA.out;have:=HS1.out.1.length_eq;simp at this ⊢;omega) (by have:=HA.out;have:=HS1.out.1.length_eq;simp at this ⊢;omega) (by have:=HA.out;simp;omega) (by have:=HA.out;simp;omega);go_wp2_with fail;refine HC2.mono ?_;rintro e wz ⟨⟨vz,rfl⟩,C2,p2,s2,ip,hk2⟩;have HMz:Hid (Mem wz B g n cap bx I ns (P++C1++C2++S)):=ip;have HKz:Hid (Kept (·=g) w wz):=HKp.out.trans hk2 (λ_ _ h=>h) (λ_ _ h=>h);have HS2:Hid (C2.Perm (L.drop (s-a)++R.drop (N-s-m))/\Sorted ns C2):=⟨p2,s2⟩
         clear ip hk2 p2 s2 HC2;go_wp2_with fail;go_end0;have hh:=bL CR.out HS1.out.1 HS1.out.2 HS2.out.1 HS2.out.2;exact⟨⟨_,rfl⟩,C1++C2,hh.1,hh.2,by simpa only[List.append_assoc]using HMz.out,HKz.out⟩
       ·have S2:Hid (Sorted ns (L.drop (s-a)++R.drop (N-s-m))):=hid (by rw[List.drop_eq_nil_of_le (show R.length<=N-s-m by have:=HA.out;omega),List.append_nil];exact PB.out.sa);go_wp2_with fail
        all_goals
         refine HROT.mono ?_;rintro e wq ⟨⟨vq,rfl⟩,hrq,hkq⟩;have HMq:Hid (Mem wq B g n cap bx I ns (P++L.take (s-a)++R.take (N-s-m)++L.drop (s-a)++R.drop (N-s-m)++S)):=hid ((HM2.out.to (d':=P++L.take (s-a)++R.take (N-s-m)++L.drop (s-a)++R.drop (N-s-m)++S) (by simpa only[List.append_assoc]using hrq) hkq));have HKq:Hid (Kept (·=g) w wq):=HK2.out.trans hkq (λ_ _ h=>h) (λ_ _ h=>h);clear hrq hkq HROT;obtain⟨C1,HS1,HMp⟩:∃C1,Hid (C1.Perm (L.take (s-a)++R.take (N-s-m))/\Sorted ns C1)/\Hid (Mem wq B g n cap bx I ns (P++C1++(L.drop (s-a)++R.drop (N-s-m)++S))):=⟨_,⟨List.Perm.refl _,S1.out⟩,hid (by have h:=HMq.out;simpa only[List.append_assoc]using h)⟩
         have HKp:=HKq;obtain⟨C2,HS2,HMz⟩:∃C2,Hid (C2.Perm (L.drop (s-a)++R.drop (N-s-m))/\Sorted ns C2)/\Hid (Mem wq B g n cap bx I ns (P++C1++C2++S)):=⟨_,⟨List.Perm.refl _,S2.out⟩,hid (by have h:=HMp.out;simpa only[List.append_assoc]using h)⟩
         have HKz:=HKp;go_wp2_with fail;go_end0;have hh:=bL CR.out HS1.out.1 HS1.out.2 HS2.out.1 HS2.out.2;exact⟨⟨_,rfl⟩,C1++C2,hh.1,hh.2,by simpa only[List.append_assoc]using HMz.out,HKz.out⟩
     ·have eL:L.drop (s-a)=[]:=List.drop_eq_nil_of_le (by have:=HA.out;omega);have HSAME:Hid (P++L.take (s-a)++R.take (N-s-m)++L.drop (s-a)++R.drop (N-s-m)++S=P++L++R++S):=hid (BQ (.inl eL));have S2:Hid (Sorted ns (L.drop (s-a)++R.drop (N-s-m))):=hid (by rw[eL,List.nil_append];exact PB.out.sb);clear eL;have jW:¬mid<N-s:=(by omega);by_cases hα:a<s
      ·have HMq:Hid (Mem wr B g n cap bx I ns (P++L.take (s-a)++R.take (N-s-m)++L.drop (s-a)++R.drop (N-s-m)++S)):=hid (by have h:=HM2.out;rw[<-HSAME.out]at h;exact h);have HKq:Hid (Kept (·=g) w wr):=HK2.out;have HC1:=IH.out (mid-a) (by omega) wr a s mid P (L.take (s-a)) (R.take (N-s-m)) (L.drop (s-a)++R.drop (N-s-m)++S) (by omega) (by simpa only[List.append_assoc]using HMq.out) PA.out (by have:=HA.out;omega) (by have:=HA.out;simp;omega) (by have:=HA.out;simp;omega) (by have:=HA.out;simp;omega) (by have:=HA.out;simp;omega);go_wp2_with fail
       all_goals
        refine HC1.mono ?_;rintro e wp ⟨⟨vp,rfl⟩,C1,p1,s1,hm1,hk1⟩;have HMp:Hid (Mem wp B g n cap bx I ns (P++C1++(L.drop (s-a)++R.drop (N-s-m)++S))):=hm1;have HKp:Hid (Kept (·=g) w wp):=HKq.out.trans hk1 (λ_ _ h=>h) (λ_ _ h=>h);have HS1:Hid (C1.Perm (L.take (s-a)++R.take (N-s-m))/\Sorted ns C1):=⟨p1,s1⟩
        clear hm1 hk1 p1 s1 HC1;obtain⟨C2,HS2,HMz⟩:∃C2,Hid (C2.Perm (L.drop (s-a)++R.drop (N-s-m))/\Sorted ns C2)/\Hid (Mem wp B g n cap bx I ns (P++C1++C2++S)):=⟨_,⟨List.Perm.refl _,S2.out⟩,hid (by have h:=HMp.out;simpa only[List.append_assoc]using h)⟩
        have HKz:=HKp;go_wp2_with fail;go_end0;have hh:=bL CR.out HS1.out.1 HS1.out.2 HS2.out.1 HS2.out.2;exact⟨⟨_,rfl⟩,C1++C2,hh.1,hh.2,by simpa only[List.append_assoc]using HMz.out,HKz.out⟩
      ·have S1:Hid (Sorted ns (L.take (s-a)++R.take (N-s-m))):=hid (by rw[show s-a=0 by omega,List.take_zero,List.nil_append];exact PA.out.sb);have HMq:Hid (Mem wr B g n cap bx I ns (P++L.take (s-a)++R.take (N-s-m)++L.drop (s-a)++R.drop (N-s-m)++S)):=hid (by have h:=HM2.out;rw[<-HSAME.out]at h;exact h);have HKq:Hid (Kept (·=g) w wr):=HK2.out;obtain⟨C1,HS1,HMp⟩:∃C1,Hid (C1.Perm (L.take (s-a)++R.take (N-s-m))/\Sorted ns C1)/\Hid (Mem wr B g n cap bx I ns (P++C1++(L.drop (s-a)++R.drop (N-s-m)++S))):=⟨_,⟨List.Perm.refl _,S1.out⟩,hid (by have h:=HMq.out;simpa only[List.append_assoc]using h)⟩
       have HKp:=HKq;obtain⟨C2,HS2,HMz⟩:∃C2,Hid (C2.Perm (L.drop (s-a)++R.drop (N-s-m))/\Sorted ns C2)/\Hid (Mem wr B g n cap bx I ns (P++C1++C2++S)):=⟨_,⟨List.Perm.refl _,S2.out⟩,hid (by have h:=HMp.out;simpa only[List.append_assoc]using h)⟩
       have HKz:=HKp;go_wp2_with fail
       all_goals
        go_end0;have hh:=bL CR.out HS1.out.1 HS1.out.2 HS2.out.1 HS2.out.2;exact⟨⟨_,rfl⟩,C1++C2,hh.1,hh.2,by simpa only[List.append_assoc]using HMz.out,HKz.out⟩
    ·have eR:R.take (N-s-m)=[]:=(by rw[show N-s-m=0 by omega];rfl);have HSAME:Hid (P++L.take (s-a)++R.take (N-s-m)++L.drop (s-a)++R.drop (N-s-m)++S=P++L++R++S):=hid (BQ (.inr eR));have S1:Hid (Sorted ns (L.take (s-a)++R.take (N-s-m))):=hid (by rw[eR,List.append_nil];exact PA.out.sa);clear eR;have pL:¬m<N-s:=(by omega);by_cases h3:s<m
     ·by_cases hδ:N-s<b
      ·by_cases hα:a<s
       ·have HMq:Hid (Mem wr B g n cap bx I ns (P++L.take (s-a)++R.take (N-s-m)++L.drop (s-a)++R.drop (N-s-m)++S)):=hid (by have h:=HM2.out;rw[<-HSAME.out]at h;exact h);have HKq:Hid (Kept (·=g) w wr):=HK2.out;obtain⟨C1,HS1,HMp⟩:∃C1,Hid (C1.Perm (L.take (s-a)++R.take (N-s-m))/\Sorted ns C1)/\Hid (Mem wr B g n cap bx I ns (P++C1++(L.drop (s-a)++R.drop (N-s-m)++S))):=⟨_,⟨List.Perm.refl _,S1.out⟩,hid (by have h:=HMq.out;simpa only[List.append_assoc]using h)⟩
        have HKp:=HKq;have HC2:=IH.out (b-mid) (by omega) wr mid (N-s) b (P++C1) (L.drop (s-a)) (R.drop (N-s-m)) S (by omega) (by simpa only[List.append_assoc]using HMp.out) PB.out (by have:=HA.out;have:=HS1.out.1.length_eq;simp at this ⊢;omega) (by have:=HA.out;have:=HS1.out.1.length_eq;simp at this ⊢;omega) (by have:=HA.out;have:=HS1.out.1.length_eq;simp at this ⊢;omega) (by have:=HA.out;simp;omega) (by have:=HA.out;simp;omega);go_wp2_with fail
        all_goals
         refine HC2.mono ?_;rintro e wz ⟨⟨vz,rfl⟩,C2,p2,s2,ip,hk2⟩;have HMz:Hid (Mem wz B g n cap bx I ns (P++C1++C2++S)):=ip;have HKz:Hid (Kept (·=g) w wz):=HKp.out.trans hk2 (λ_ _ h=>h) (λ_ _ h=>h);have HS2:Hid (C2.Perm (L.drop (s-a)++R.drop (N-s-m))/\Sorted ns C2):=⟨p2,s2⟩
         clear ip hk2 p2 s2 HC2;go_wp2_with fail;go_end0;have hh:=bL CR.out HS1.out.1 HS1.out.2 HS2.out.1 HS2.out.2;exact⟨⟨_,rfl⟩,C1++C2,hh.1,hh.2,by simpa only[List.append_assoc]using HMz.out,HKz.out⟩
       ·have HMq:Hid (Mem wr B g n cap bx I ns (P++L.take (s-a)++R.take (N-s-m)++L.drop (s-a)++R.drop (N-s-m)++S)):=hid (by have h:=HM2.out;rw[<-HSAME.out]at h;exact h);have HKq:Hid (Kept (·=g) w wr):=HK2.out;obtain⟨C1,HS1,HMp⟩:∃C1,Hid (C1.Perm (L.take (s-a)++R.take (N-s-m))/\Sorted ns C1)/\Hid (Mem wr B g n cap bx I ns (P++C1++(L.drop (s-a)++R.drop (N-s-m)++S))):=⟨_,⟨List.Perm.refl _,S1.out⟩,hid (by have h:=HMq.out;simpa only[List.append_assoc]using h)⟩
        have HKp:=HKq;have HC2:=IH.out (b-mid) (by omega) wr mid (N-s) b (P++C1) (L.drop (s-a)) (R.drop (N-s-m)) S (by omega) (by simpa only[List.append_assoc]using HMp.out) PB.out (by have:=HA.out;have:=HS1.out.1.length_eq;simp at this ⊢;omega) (by have:=HA.out;have:=HS1.out.1.length_eq;simp at this ⊢;omega) (by have:=HA.out;have:=HS1.out.1.length_eq;simp at this ⊢;omega) (by have:=HA.out;simp;omega) (by have:=HA.out;simp;omega);go_wp2_with fail
        all_goals
         refine HC2.mono ?_;rintro e wz ⟨⟨vz,rfl⟩,C2,p2,s2,ip,hk2⟩;have HMz:Hid (Mem wz B g n cap bx I ns (P++C1++C2++S)):=ip;have HKz:Hid (Kept (·=g) w wz):=HKp.out.trans hk2 (λ_ _ h=>h) (λ_ _ h=>h);have HS2:Hid (C2.Perm (L.drop (s-a)++R.drop (N-s-m))/\Sorted ns C2):=⟨p2,s2⟩
         clear ip hk2 p2 s2 HC2;go_wp2_with fail;go_end0;have hh:=bL CR.out HS1.out.1 HS1.out.2 HS2.out.1 HS2.out.2;exact⟨⟨_,rfl⟩,C1++C2,hh.1,hh.2,by simpa only[List.append_assoc]using HMz.out,HKz.out⟩
      ·have S2:Hid (Sorted ns (L.drop (s-a)++R.drop (N-s-m))):=hid (by rw[List.drop_eq_nil_of_le (show R.length<=N-s-m by have:=HA.out;omega),List.append_nil];exact PB.out.sa);by_cases hα:a<s
       ·have HMq:Hid (Mem wr B g n cap bx I ns (P++L.take (s-a)++R.take (N-s-m)++L.drop (s-a)++R.drop (N-s-m)++S)):=hid (by have h:=HM2.out;rw[<-HSAME.out]at h;exact h);have HKq:Hid (Kept (·=g) w wr):=HK2.out;obtain⟨C1,HS1,HMp⟩:∃C1,Hid (C1.Perm (L.take (s-a)++R.take (N-s-m))/\Sorted ns C1)/\Hid (Mem wr B g n cap bx I ns (P++C1++(L.drop (s-a)++R.drop (N-s-m)++S))):=⟨_,⟨List.Perm.refl _,S1.out⟩,hid (by have h:=HMq.out;simpa only[List.append_assoc]using h)⟩
        have HKp:=HKq;obtain⟨C2,HS2,HMz⟩:∃C2,Hid (C2.Perm (L.drop (s-a)++R.drop (N-s-m))/\Sorted ns C2)/\Hid (Mem wr B g n cap bx I ns (P++C1++C2++S)):=⟨_,⟨List.Perm.refl _,S2.out⟩,hid (by have h:=HMp.out;simpa only[List.append_assoc]using h)⟩
        have HKz:=HKp;go_wp2_with fail
        all_goals
         go_end0;have hh:=bL CR.out HS1.out.1 HS1.out.2 HS2.out.1 HS2.out.2;exact⟨⟨_,rfl⟩,C1++C2,hh.1,hh.2,by simpa only[List.append_assoc]using HMz.out,HKz.out⟩
       ·have HMq:Hid (Mem wr B g n cap bx I ns (P++L.take (s-a)++R.take (N-s-m)++L.drop (s-a)++R.drop (N-s-m)++S)):=hid (by have h:=HM2.out;rw[<-HSAME.out]at h;exact h);have HKq:Hid (Kept (·=g) w wr):=HK2.out;obtain⟨C1,HS1,HMp⟩:∃C1,Hid (C1.Perm (L.take (s-a)++R.take (N-s-m))/\Sorted ns C1)/\Hid (Mem wr B g n cap bx I ns (P++C1++(L.drop (s-a)++R.drop (N-s-m)++S))):=⟨_,⟨List.Perm.refl _,S1.out⟩,hid (by have h:=HMq.out;simpa only[List.append_assoc]using h)⟩
        have HKp:=HKq;obtain⟨C2,HS2,HMz⟩:∃C2,Hid (C2.Perm (L.drop (s-a)++R.drop (N-s-m))/\Sorted ns C2)/\Hid (Mem wr B g n cap bx I ns (P++C1++C2++S)):=⟨_,⟨List.Perm.refl _,S2.out⟩,hid (by have h:=HMp.out;simpa only[List.append_assoc]using h)⟩
        have HKz:=HKp;go_wp2_with fail
        all_goals
         go_end0;have hh:=bL CR.out HS1.out.1 HS1.out.2 HS2.out.1 HS2.out.2;exact⟨⟨_,rfl⟩,C1++C2,hh.1,hh.2,by simpa only[List.append_assoc]using HMz.out,HKz.out⟩
     ·have S2:Hid (Sorted ns (L.drop (s-a)++R.drop (N-s-m))):=hid (by rw[List.drop_eq_nil_of_le (show L.length<=s-a by have:=HA.out;omega),List.nil_append];exact PB.out.sb);have jW:¬mid<N-s:=(by omega);by_cases hα:a<s
      ·have HMq:Hid (Mem wr B g n cap bx I ns (P++L.take (s-a)++R.take (N-s-m)++L.drop (s-a)++R.drop (N-s-m)++S)):=hid (by have h:=HM2.out;rw[<-HSAME.out]at h;exact h);have HKq:Hid (Kept (·=g) w wr):=HK2.out;obtain⟨C1,HS1,HMp⟩:∃C1,Hid (C1.Perm (L.take (s-a)++R.take (N-s-m))/\Sorted ns C1)/\Hid (Mem wr B g n cap bx I ns (P++C1++(L.drop (s-a)++R.drop (N-s-m)++S))):=⟨_,⟨List.Perm.refl _,S1.out⟩,hid (by have h:=HMq.out;simpa only[List.append_assoc]using h)⟩
       have HKp:=HKq;obtain⟨C2,HS2,HMz⟩:∃C2,Hid (C2.Perm (L.drop (s-a)++R.drop (N-s-m))/\Sorted ns C2)/\Hid (Mem wr B g n cap bx I ns (P++C1++C2++S)):=⟨_,⟨List.Perm.refl _,S2.out⟩,hid (by have h:=HMp.out;simpa only[List.append_assoc]using h)⟩
       have HKz:=HKp;go_wp2_with fail
       all_goals
        go_end0;have hh:=bL CR.out HS1.out.1 HS1.out.2 HS2.out.1 HS2.out.2;exact⟨⟨_,rfl⟩,C1++C2,hh.1,hh.2,by simpa only[List.append_assoc]using HMz.out,HKz.out⟩
      ·have HMq:Hid (Mem wr B g n cap bx I ns (P++L.take (s-a)++R.take (N-s-m)++L.drop (s-a)++R.drop (N-s-m)++S)):=hid (by have h:=HM2.out;rw[<-HSAME.out]at h;exact h);have HKq:Hid (Kept (·=g) w wr):=HK2.out;obtain⟨C1,HS1,HMp⟩:∃C1,Hid (C1.Perm (L.take (s-a)++R.take (N-s-m))/\Sorted ns C1)/\Hid (Mem wr B g n cap bx I ns (P++C1++(L.drop (s-a)++R.drop (N-s-m)++S))):=⟨_,⟨List.Perm.refl _,S1.out⟩,hid (by have h:=HMq.out;simpa only[List.append_assoc]using h)⟩
       have HKp:=HKq;obtain⟨C2,HS2,HMz⟩:∃C2,Hid (C2.Perm (L.drop (s-a)++R.drop (N-s-m))/\Sorted ns C2)/\Hid (Mem wr B g n cap bx I ns (P++C1++C2++S)):=⟨_,⟨List.Perm.refl _,S2.out⟩,hid (by have h:=HMp.out;simpa only[List.append_assoc]using h)⟩
       have HKz:=HKp;go_wp2_with fail
       all_goals
        go_end0;have hh:=bL CR.out HS1.out.1 HS1.out.2 HS2.out.1 HS2.out.2;exact⟨⟨_,rfl⟩,C1++C2,hh.1,hh.2,by simpa only[List.append_assoc]using HMz.out,HKz.out⟩
theorem BA(k B g n cap bx:Nat)(I:Nat→Prop)(ns:List Nat):∀(w:World) (a m b:Nat) (P L R S:List Nat),b-a≤k→Mem w B g n cap bx I ns (P++L++R++S)→Parts ns L R→a=P.length→m=P.length+L.length→b=P.length+L.length+R.length→0<L.length→0<R.length →
   Calls Tryz.prog 203 #[.slice (some ⟨g,0,none⟩) n cap,.int .i64 (a:Nat),.int .i64 (m:Nat),.int .i64 (b:Nat),oZ bx] w λe w'=>(∃v,e=.returned v)/\oA w w' B g n cap bx I ns P L R S:=by
 induction k using Nat.strongRecOn with
 | ind k ih=>
  intro w a m b P L R S hk hM hP ha hm hb hL hR;by_cases h1:L.length=1
  ·obtain⟨x,rfl⟩:=List.length_eq_one_iff.1 h1;exact JK w B g n cap bx a m b I ns P R S x hM hP ha hm hb
  ·by_cases h2:R.length=1
   ·obtain⟨y,rfl⟩:=List.length_eq_one_iff.1 h2;exact Hc w B g n cap bx a m b I ns P L S y hM hP ha hm hb (by omega)
   ·exact FJ k B g n cap bx I ns ih w a m b P L R S hk hM hP ha hm hb (by omega) (by omega)
end Go.Proofs.YtkhagfgineifhaaGreatDoor
