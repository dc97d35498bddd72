import Derived.Test.YtkhagfgineifhaaGreatDoorHSym2
set_option maxHeartbeats 4000000
set_option maxRecDepth 100000
namespace Go.Proofs.YtkhagfgineifhaaGreatDoor
open Go.RowKit
inductive Blocks(ns:List Nat)(k:Nat):List Nat->Prop
 | last (l:List Nat) (h:l.length<=k) (s:Sorted ns l):Blocks ns k l
 | cons (e r:List Nat) (h:e.length=k) (s:Sorted ns e) (a:Ahead e r) (b:Blocks ns k r):Blocks ns k (e++r)
theorem Blocks.split{ns l:List Nat}{k:Nat}(h:Blocks ns k l)(hl:k<=l.length):∃e r,l=e++r/\e.length=k/\Sorted ns e/\Ahead e r/\Blocks ns k r:=by
 cases h with
 | last _ h s=>exact⟨l,[],by simp,by omega,s,by intro x _ y hy;simp at hy,.last [] (by simp) List.Pairwise.nil⟩
 | cons e r h s a b=>exact⟨e,r,rfl,h,s,a,b⟩
theorem Blocks.short{ns l:List Nat}{k:Nat}(h:Blocks ns k l)(hl:l.length<=k):Sorted ns l:=by
 cases h with
 | last _ h s=>exact s
 | cons e r h s a b=>
  have:r=[]:=List.eq_nil_of_length_eq_zero (by simp at hl;omega);subst this;simpa using s
def Goes(ns:List Nat)(k:Nat)(d D rest:List Nat):Prop:=(D++rest).Perm d/\∀r:List Nat,r.Perm rest->Blocks ns k r->Blocks ns k (D++r)
theorem Goes.start(ns:List Nat)(k:Nat)(d:List Nat):Goes ns k d [] d:=⟨by simp,λr _ h=>by simpa using h⟩
theorem Goes.step{ns d D r C:List Nat}{k:Nat}(e:List Nat)(h:Goes ns k d D (e++r))(hC:C.Perm e)(hl:e.length=k)(hs:Sorted ns C)(ha:Ahead e r):Goes ns k d (D++C) r:=by
 refine⟨?_,λr' hr hb=>?_⟩
 ·refine List.Perm.trans ?_ h.1;rw[List.append_assoc];exact List.Perm.append_left _ (hC.append_right r)
 ·rw[List.append_assoc];exact h.2 (C++r') (hC.append hr) (.cons C r' (by rw[hC.length_eq,hl]) hs (ha.perm hC hr) hb)
theorem Goes.finish{ns d D r r':List Nat}{k:Nat}(h:Goes ns k d D r)(hp:r'.Perm r)(hb:Blocks ns k r'):(D++r').Perm d/\Blocks ns k (D++r'):=
 ⟨(List.Perm.append_left D hp).trans h.1,h.2 r' hp hb⟩
theorem AJ(w:World)(B g n cap bx:Nat)(I:Nat→Prop)(ns d:List Nat)(hM:Mem w B g n cap bx I ns d)(hd:d.Pairwise (· < ·))(hm:∀x∈d,x<ns.length):
  Calls Tryz.prog 196 #[.slice (some ⟨g,0,none⟩) n cap,.int .i64 (n:Nat),oZ bx] w λe w'=>(∃v,e=.returned v)/\∃d',d'.Perm d/\Sorted ns d'/\Mem w' B g n cap bx I ns d'/\Kept (·=g) w w':=by
 have ag:=hM.row.len;have hn:=hM.hn;have HM:Hid (Mem w B g n cap bx I ns d):=hM;have HD:Hid (d.Pairwise (· < ·)):=hd;have HX:Hid (∀x∈d,x<ns.length):=hm;have HN:Hid (d.length=n):=ag;clear hM hd hm ag;go_enter Tryz.func196,Tryz.ntmps196;go_wp2_with fail;go_loopg [7,8] n (λq za zb wr=>∃(a:Nat) (D r:List Nat),n-a<=q/\a<=n/\za=.int .i64 (a:Nat)/\zb=.int .i64 ((a+20:Nat):Int)/\Hid (D.length=a/\a+r.length=n/\r.Pairwise (· < ·)/\Goes ns 20 d D r)/\Hid (Mem wr B g n cap bx I ns (D++r))/\Hid (Kept (·=g) w wr))
 case atStart=>exact⟨0,[],d,by omega,by omega,rfl,rfl,⟨rfl,by have:=HN.out;omega,HD.out,Goes.start ns 20 d⟩,HM.out,Kept.refl _ w⟩
 case round=>
  obtain⟨a,D,r,hq,K2,rfl,rfl,HF,HM2,HK2⟩:=hrel;clear HM;by_cases mr:a+20<=n
  ·have XI:20<=r.length:=(by have:=HF.out.2.1;omega);have ew:∀x∈r.take 20,x<ns.length:=λx hx=>HX.out x (HF.out.2.2.2.1.mem_iff.1 (List.mem_append_right _ (List.mem_of_mem_take hx)))
   have HC:=lH wr B g n cap a (a+20) bx I ns D (r.take 20) (r.drop 20) (by have h:=HM2.out.row;rw[<-List.take_append_drop 20 r,<-List.append_assoc]at h;exact h) HF.out.1.symm (by have:=HF.out.1;simp;omega) hn HM2.out.hns HM2.out.cmp HM2.out.hbx HM2.out.hI (List.Pairwise.sublist (List.take_sublist _ _) HF.out.2.2.1) ew;have hc:((a+20:Nat):Int)<=(n:Int):=(by omega);clear ew;go_wp2_with fail;refine HC.mono ?_;rintro e w2 ⟨⟨v,rfl⟩,⟨C,p1,s1,hr1⟩,hk1⟩;have HC1:Hid (C.Perm (r.take 20)/\Sorted ns C):=⟨p1,s1⟩
   have HM3:Hid (Mem w2 B g n cap bx I ns (D++C++r.drop 20)):=hid (HM2.out.to hr1 hk1);have HK3:Hid (Kept (·=g) w w2):=HK2.out.trans hk1 (λ_ _ h=>h) (λ_ _ h=>h);clear p1 s1 hr1 hk1 HC;go_wp2_with fail;go_roundg (gk-20)
   case measure=>omega
   case rel=>
    refine⟨a+20,D++C,r.drop 20,by omega,by omega,rfl,by go_num,⟨?_,?_,?_,?_⟩,HM3.out,HK3.out⟩
    ·have:=HC1.out.1.length_eq;have:=HF.out.1;simp at *;omega
    ·have:=HF.out.2.1;simp;omega
    ·exact List.Pairwise.sublist (List.drop_sublist _ _) HF.out.2.2.1
    ·have hg:=HF.out.2.2.2;rw[<-List.take_append_drop 20 r]at hg;refine Goes.step (r.take 20) hg HC1.out.1 (by simp;omega) HC1.out.2 ?_;have ml:=HF.out.2.2.1;rw[<-List.take_append_drop 20 r]at ml;exact(List.pairwise_append.1 ml).2.2
  ·have ew:∀x∈r,x<ns.length:=λx hx=>HX.out x (HF.out.2.2.2.1.mem_iff.1 (List.mem_append_right _ hx))
   have HC:=lH wr B g n cap a n bx I ns D r [] (by simpa using HM2.out.row) HF.out.1.symm (by have:=HF.out;omega) hn HM2.out.hns HM2.out.cmp HM2.out.hbx HM2.out.hI HF.out.2.2.1 ew;have hc:¬((a+20:Nat):Int)<=(n:Int):=(by omega);clear ew;go_wp2_with fail;refine HC.mono ?_;rintro e w2 ⟨⟨v,rfl⟩,⟨C,p1,s1,hr1⟩,hk1⟩;obtain⟨d1,Cq⟩:∃d1,d1=D++C:=⟨_,rfl⟩
   have HB:Hid (d1.Perm d/\Blocks ns 20 d1):=(by rw[Cq];exact HF.out.2.2.2.finish p1 (.last C (by have:=p1.length_eq;have:=HF.out.2.1;omega) s1));have HM3:Hid (Mem w2 B g n cap bx I ns d1):=hid (HM2.out.to (by rw[Cq];simpa using hr1) hk1);have HK3:Hid (Kept (·=g) w w2):=HK2.out.trans hk1 (λ_ _ h=>h) (λ_ _ h=>h);clear p1 s1 hr1 hk1 HC Cq HM2 HK2 HF hc mr hq K2;go_wp2_with fail;go_loopg [6] n (λq z wr=>∃(k:Nat) (d1:List Nat),n-k<=q/\20<=k/\k<=2000000/\z=.int .i64 (k:Nat)/\Hid (d1.Perm d/\Blocks ns k d1)/\Hid (Mem wr B g n cap bx I ns d1)/\Hid (Kept (·=g) w wr))
   case atStart=>exact⟨20,d1,by omega,by omega,by omega,rfl,HB,HM3,HK3⟩
   case round=>
    obtain⟨k,d2,hq,Yo,Rr,rfl,HB2,HM4,HK4⟩:=hrel;obtain⟨IY,oY⟩:∃x,x=gk:=⟨_,rfl⟩
    rw[<-oY]at hq;have HG:Hid (IY=gk):=oY;clear oY HB HM3 HK3;by_cases hlt:k<n
    ·go_wp2_with fail;go_loopg [7,8] n (λq za zb wr=>∃(a:Nat) (D r:List Nat),n-a<=q/\a<=n/\za=.int .i64 (a:Nat)/\zb=.int .i64 ((a+2*k:Nat):Int)/\Hid (D.length=a/\a+r.length=n/\Blocks ns k r/\Goes ns (2*k) d D r)/\Hid (Mem wr B g n cap bx I ns (D++r))/\Hid (Kept (·=g) w wr))
     case atStart=>exact⟨0,[],d2,by omega,by omega,rfl,by congr 1<;>omega,⟨rfl,by have:=HN.out;have:=HB2.out.1.length_eq;omega,HB2.out.2,⟨HB2.out.1,λr _ h=>by simpa using h⟩⟩,HM4.out,HK4.out⟩
     case round=>
      obtain⟨a,D,r,Lx,K2,rfl,rfl,HF,HM5,HK5⟩:=hrel;clear HM4 HK4;by_cases mr:a+2*k<=n
      ·obtain⟨e1,r1,hr1,kY,hs1,LG,hb1⟩:=HF.out.2.2.1.split (by have:=HF.out.2.1;omega);obtain⟨e2,r2,hr2,vf,hs2,Ts,hb2⟩:=hb1.split (by have:=HF.out.2.1;subst hr1;simp at this;omega);subst hr2;have ew:∀x∈e1++e2,x<ns.length:=λx hx=>HX.out x (HF.out.2.2.2.1.mem_iff.1 (by rw[hr1];simp at hx ⊢;rcases hx with h | h<;>simp[h]))
       have hP:Parts ns e1 e2:=⟨hs1,hs2,λx hx y hy=>LG x hx y (by simp[hy]),λx hx=>ew x (by simp[hx]),λx hx=>ew x (by simp[hx])⟩
       have HC:=BA (2*k) B g n cap bx I ns wr a (a+k) (a+2*k) D e1 e2 r2 (by omega) (by have h:=HM5.out;rw[hr1]at h;simpa using h) hP HF.out.1.symm (by have:=HF.out.1;omega) (by have:=HF.out.1;omega) (by omega) (by omega);have HE:Hid (r=e1++(e2++r2)/\e1.length=k/\e2.length=k/\Ahead e1 (e2++r2)/\Ahead e2 r2/\Blocks ns k r2):=⟨hr1,kY,vf,LG,Ts,hb2⟩
       have hc:((a+2*k:Nat):Int)<=(n:Int):=(by omega);clear hr1 kY vf LG Ts hb2 hb1 ew hP hs1 hs2;go_wp2_with fail;refine HC.mono ?_;rintro e w3 ⟨⟨v,rfl⟩,C,p1,s1,hm1,hk1⟩;have HC1:Hid (C.Perm (e1++e2)/\Sorted ns C):=⟨p1,s1⟩
       have HM6:Hid (Mem w3 B g n cap bx I ns (D++C++r2)):=hm1;have HK6:Hid (Kept (·=g) w w3):=HK5.out.trans hk1 (λ_ _ h=>h) (λ_ _ h=>h);clear p1 s1 hm1 hk1 HC;go_wp2_with fail;go_roundg (gk-1)
       case measure=>omega
       case rel=>
        refine⟨a+2*k,D++C,r2,by omega,by omega,rfl,by congr 1<;>omega,⟨?_,?_,HE.out.2.2.2.2.2,?_⟩,HM6.out,HK6.out⟩
        ·have h1:=HC1.out.1.length_eq;have:=HF.out.1;have h2:=HE.out;simp at *;omega
        ·have h1:=HF.out.2.1;have h2:=HE.out;rw[h2.1]at h1;simp at h1;omega
        ·have hg:=HF.out.2.2.2;rw[HE.out.1,<-List.append_assoc]at hg;refine Goes.step (e1++e2) hg HC1.out.1 (by have:=HE.out;simp;omega) HC1.out.2 ?_;intro x hx y hy;rcases List.mem_append.1 hx with hx | hx
         ·exact HE.out.2.2.2.1 x hx y (by simp[hy])
         ·exact HE.out.2.2.2.2.1 x hx y hy
      ·have hc:¬((a+2*k:Nat):Int)<=(n:Int):=(by omega);by_cases UT:a+k<n
       ·obtain⟨e1,r1,hr1,kY,hs1,LG,hb1⟩:=HF.out.2.2.1.split (by have:=HF.out.2.1;omega);have vf:r1.length<=k:=(by have:=HF.out.2.1;rw[hr1]at this;simp at this;omega);have ew:∀x∈e1++r1,x<ns.length:=λx hx=>HX.out x (HF.out.2.2.2.1.mem_iff.1 (by rw[hr1];simp at hx ⊢;rcases hx with h | h<;>simp[h]))
        have hP:Parts ns e1 r1:=⟨hs1,hb1.short vf,LG,λx hx=>ew x (by simp[hx]),λx hx=>ew x (by simp[hx])⟩
        have HC:=BA (2*k) B g n cap bx I ns wr a (a+k) n D e1 r1 [] (by omega) (by have h:=HM5.out;rw[hr1]at h;simpa using h) hP HF.out.1.symm (by have:=HF.out.1;omega) (by have:=HF.out;rw[hr1]at this;simp at this;omega) (by omega) (by have:=HF.out.2.1;rw[hr1]at this;simp at this;omega);have HE:Hid (r=e1++r1/\e1.length=k/\r1.length<=k):=⟨hr1,kY,vf⟩
        clear hr1 kY vf LG hb1 ew hP hs1;go_wp2_with fail;refine HC.mono ?_;rintro e w3 ⟨⟨v,rfl⟩,C,p1,s1,hm1,hk1⟩;have HC1:Hid (C.Perm (e1++r1)/\Sorted ns C):=⟨p1,s1⟩
        have HM6:Hid (Mem w3 B g n cap bx I ns (D++C)):=hid (by simpa using hm1);have HK6:Hid (Kept (·=g) w w3):=HK5.out.trans hk1 (λ_ _ h=>h) (λ_ _ h=>h);clear p1 s1 hm1 hk1 HC;go_wp2_with fail;go_roundg (IY-1)
        case measure=>have:=HG.out;omega
        case rel=>
         refine⟨2*k,D++C,by omega,by omega,by omega,by congr 1<;>omega,?_,HM6.out,HK6.out⟩;refine hid (HF.out.2.2.2.finish (by rw[HE.out.1];exact HC1.out.1) (.last C ?_ HC1.out.2));have:=HC1.out.1.length_eq;have:=HE.out;simp at *;omega
       ·have cS:¬((a+k:Nat):Int)<(n:Int):=(by omega);go_wp2_with fail;go_roundg (IY-1)
        case measure=>have:=HG.out;omega
        case rel=>
         refine⟨2*k,D++r,by omega,by omega,by omega,by congr 1<;>omega,?_,HM5.out,HK5.out⟩;exact hid (HF.out.2.2.2.finish (List.Perm.refl _) (.last r (by have:=HF.out.2.1;omega) (HF.out.2.2.1.short (by have:=HF.out.2.1;omega))))
    ·go_wp2_with fail;go_end0;exact⟨⟨_,rfl⟩,d2,HB2.out.1,HB2.out.2.short (by have:=HB2.out.1.length_eq;have:=HN.out;omega),HM4.out,HK4.out⟩
end Go.Proofs.YtkhagfgineifhaaGreatDoor
