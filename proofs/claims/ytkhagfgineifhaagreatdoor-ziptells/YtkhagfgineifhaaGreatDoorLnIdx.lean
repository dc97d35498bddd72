import Derived.Test.YtkhagfgineifhaaGreatDoorLnShape
set_option maxHeartbeats 1000000
namespace Go.Proofs.YtkhagfgineifhaaGreatDoor
open Go.RowKit
theorem Ky(z:Int):(!AP z 0 15)=d6 0 15 z:=by
 unfold AP d6;by_cases h1:0<=z
 ·by_cases h2:z<=15
  ·have h3:¬z<0:=(by omega);have h4:¬15<z:=(by omega);simp[h1,h2,h3,h4]
  ·have h3:¬z<0:=(by omega);have h4:15<z:=(by omega);simp[h1,h2,h3,h4]
 ·have h3:z<0:=(by omega);simp[h1,h3]
theorem Aa(w:World)(z:Int):
  Calls Tryz.prog 154 #[.int .i64 z] w λe w'=>e=.returned (.bool (d6 0 15 z))/\w'=w:=by
 have HW:=gL w z 0 15;go_enter Tryz.func154,Tryz.ntmps154;go_wp2_with fail;refine HW.mono ?_;rintro e w1 ⟨rfl,hw1⟩;subst hw1;clear HW;go_wp2_with fail;go_ret;exact⟨by rw[<-Ky];rfl,rfl⟩
abbrev B6:Value:=.func (.func 154) #[] #[]
theorem Ab(w:World)(v:Value)(I:Nat→Prop)(zs:List Int)(hs:SrcE bI w I v zs)(hn:zs.length≤10000000):
  Calls Tryz.prog 184 #[v,B6] w λe w'=>(∃z:Int,e=.returned (.int .i64 z)/\decide (0<=z)=zs.any (d6 0 15))/\w'=w:=by
 obtain⟨ao,cap,rfl,ic,gh⟩:=id hs;clear ic gh;have HS:Hid (SrcE bI w I (.slice ao zs.length cap) zs):=hs;clear hs;go_enter Tryz.func184,Tryz.ntmps184;go_wp2_with fail;go_loopg [8] zs.length (λk z wr=>∃i:Nat,zs.length-i<=k/\i<=zs.length/\z=.int .i64 (i:Nat)/\Hid ((zs.take i).any (d6 0 15)=false)/\wr=w)
 case atStart=>exact⟨0,by omega,by omega,rfl,hid (by simp),rfl⟩
 case round=>
  obtain⟨i,hk,yr,rfl,HF,hw⟩:=hrel;subst hw;by_cases hlt:i<zs.length
  ·obtain⟨b,o,eS,e,_,_,hc⟩:=HS.out.get i hlt;simp only[Value.slice.injEq]at e;obtain⟨rfl,jC,rfl⟩:=e;clear jC;obtain⟨x,hx⟩:∃x,x=zs[i]:=⟨_,rfl⟩
   rw[<-hx]at hc;unfold bI at hc;have HX:Hid (x=zs[i]):=hx;have HC:=Aa wr x;clear hx;cases hb:d6 0 15 x with
   | true=>
    rw[hb]at HC;have HB:Hid (d6 0 15 x=true):=hb;clear hb;go_wp2_with fail;refine HC.mono ?_;rintro e w2 ⟨rfl,hw2⟩;subst hw2;clear HC;go_wp2_with fail;go_ret;refine⟨⟨_,rfl,?_⟩,rfl⟩;have h1:zs.any (d6 0 15)=true:=List.any_eq_true.2 ⟨x,by rw[HX.out];exact List.getElem_mem _,HB.out⟩;rw[h1];simp
   | false=>
    rw[hb]at HC;have HB:Hid (d6 0 15 x=false):=hb;clear hb;go_wp2_with fail;refine HC.mono ?_;rintro e w2 ⟨rfl,hw2⟩;subst hw2;clear HC;go_wp2_with fail;go_roundg (gk-1)
    case measure=>omega
    case rel=>
     refine⟨i+1,by omega,by omega,by go_num,hid ?_,rfl⟩;rw[List.take_succ_eq_append_getElem hlt,List.any_append,HF.out,<-HX.out];simp[HB.out]
  ·have:i=zs.length:=(by omega);subst this;go_wp2_with fail;go_ret;refine⟨⟨_,rfl,?_⟩,rfl⟩;have h:=HF.out;rw[List.take_of_length_le (Nat.le_refl _)]at h;rw[h];simp
theorem lz(w:World)(v:Value)(I:Nat→Prop)(zs:List Int)(hs:SrcE bI w I v zs)(hn:zs.length≤10000000):
  Calls Tryz.prog 155 #[v,B6] w λe w'=>e=.returned (.bool (!cG zs))/\w'=w:=by
 have H:=Ab w v I zs hs hn;clear hs;go_enter Tryz.func155,Tryz.ntmps155;go_wp2_with fail;refine H.mono ?_;rintro e w2 ⟨⟨z,rfl,hz⟩,hw⟩;subst hw;have HZ:Hid (decide (0<=z)=zs.any (d6 0 15)):=hz;clear hz H;go_wp2_with fail;go_ret;refine⟨?_,rfl⟩;unfold cG;rw[Bool.not_not,<-HZ.out];rfl
theorem AW(w:World)(q b o n cap x y:Nat)(hq:w.cell? ⟨q,0,none⟩=some (.slice (some ⟨b,o,none⟩) n cap))(hn:0<n)(hb:w.cell? ⟨b,o,none⟩=some (.int .i64 (y:Nat))):
  Calls Tryz.prog 185 #[.int .i64 (x:Nat),.pointer (some ⟨q,0,none⟩)] w λe w'=>e=.returned (.bool (!decide (x=y)))/\w'=w:=by
 go_enter Tryz.func185,Tryz.ntmps185;by_cases h:x=y
 ·subst h;go_wp2_with fail;go_ret;exact⟨by simp,rfl⟩
 ·have bm:((x:Int)==(y:Int))=false:=(by simp;omega);have HH:Hid ((!decide (x=y))=true/\¬(x:Int)=(y:Int)):=hid ⟨by simp[h],by omega⟩;clear h;go_wp2_with fail;go_ret;exact⟨by rw[HH.out.1];simp[HH.out.2],rfl⟩
abbrev Bv(q:Nat):Value:=.func (.func 185) #[] #[.pointer (some ⟨q,0,none⟩)]
theorem y7(w:World)(b o cap q y:Nat)(I:Nat→Prop)(ns:List Nat)(hs:SrcE am w I (.slice (some ⟨b,o,none⟩) ns.length cap) ns)(hn:ns.length≤1000000)(h0:0<ns.length)(hy:ns[0]=y)
  (hq:w.cell? ⟨q,0,none⟩=some (.slice (some ⟨b,o,none⟩) ns.length cap)):
  Calls Tryz.prog 184 #[.slice (some ⟨b,o,none⟩) ns.length cap,Bv q] w λe w'=>((e=.returned (.int .i64 (-1))/\∀j (_:j<ns.length),ns[j]=y)\/∃i,e=.returned (.int .i64 (i:Nat))/\∃h:i<ns.length,ns[i]≠y/\∀j (_:j<ns.length),j<i->ns[j]=y)/\w'=w:=by
 have c0:w.cell? ⟨b,o,none⟩=some (.int .i64 (y:Nat)):=by obtain⟨b',o',cap',e,_,_,c⟩:=hs.get 0 h0;simp only[Value.slice.injEq,Option.some.injEq,Addr.mk.injEq,and_true]at e;obtain⟨⟨rfl,rfl⟩,_,_⟩:=e;rw[hy]at c;exact c
 have HS:Hid (SrcE am w I (.slice (some ⟨b,o,none⟩) ns.length cap) ns):=hs;clear hs hy;go_enter Tryz.func184,Tryz.ntmps184;go_wp2_with fail;go_loopg [8] ns.length (λk z wr=>∃i:Nat,ns.length-i<=k/\i<=ns.length/\z=.int .i64 (i:Nat)/\Hid (∀j (_:j<ns.length),j<i->ns[j]=y)/\wr=w)
 case atStart=>exact⟨0,by omega,by omega,rfl,hid (λj _ h=>by omega),rfl⟩
 case round=>
  obtain⟨i,hk,yr,rfl,HF,hw⟩:=hrel;subst hw;by_cases hlt:i<ns.length
  ·obtain⟨b',o',eS,e,_,_,hc⟩:=HS.out.get i hlt;simp only[Value.slice.injEq,Option.some.injEq,Addr.mk.injEq,and_true]at e;obtain⟨⟨rfl,rfl⟩,jC,rfl⟩:=e;clear jC;obtain⟨x,hx⟩:∃x,x=ns[i]:=⟨_,rfl⟩
   rw[<-hx]at hc;unfold am at hc;have HX:Hid (x=ns[i]):=hx;have HC:=AW wr q b o ns.length cap x y hq h0 c0;clear hx;by_cases hb:x=y
   ·have HB:Hid (x=y):=hb;have hd:(!decide (x=y))=false:=(by simp[hb]);rw[hd]at HC;clear hb hd;go_wp2_with fail;refine HC.mono ?_;rintro e w2 ⟨rfl,hw2⟩;subst hw2;clear HC;go_wp2_with fail;go_roundg (gk-1)
    case measure=>omega
    case rel=>
     refine⟨i+1,by omega,by omega,by go_num,hid (λj hj WZ=>?_),rfl⟩;by_cases e:j=i
     ·subst e;rw[<-HX.out,HB.out]
     ·exact HF.out j hj (by omega)
   ·have HB:Hid (x≠y):=hb;have hd:(!decide (x=y))=true:=(by simp[hb]);rw[hd]at HC;clear hb hd;go_wp2_with fail;refine HC.mono ?_;rintro e w2 ⟨rfl,hw2⟩;subst hw2;clear HC;go_wp2_with fail;go_ret;exact⟨.inr ⟨i,rfl,hlt,by rw[<-HX.out];exact HB.out,HF.out⟩,rfl⟩
  ·have:i=ns.length:=(by omega);subst this;go_wp2_with fail;go_ret;exact⟨.inl ⟨rfl,λj hj=>HF.out j hj hj⟩,rfl⟩
theorem xk{y:Nat}{r:List Nat}{n:Nat}(h:(n=(y::r).length/\∀j (_:j<(y::r).length),(y::r)[j]=y)\/∃h:n<(y::r).length,(y::r)[n]≠y/\∀j (_:j<(y::r).length),j<n->(y::r)[j]=y):n=1+bJ y r:=by
 rcases h with⟨h1,h2⟩ | ⟨h1,h2,h3⟩
 ·have:=sQ y r r.length (λj hj _=>by have:=h2 (j+1) (by simpa using hj);rw[List.getElem_cons_succ]at this;exact this) (Nat.le_refl _) (λh=>by omega);rw[this,h1];simp;omega
 ·cases n with
  | zero=>simp at h2
  | succ n=>
   have:=sQ y r n (λj hj OJ=>by have:=h3 (j+1) (by simpa using hj) (by omega);rw[List.getElem_cons_succ]at this;exact this) (by simp at h1;omega) (λ_=>by simpa using h2);rw[this];omega
theorem Ej(w:World)(b o cap:Nat)(I:Nat→Prop)(y:Nat)(r:List Nat)(hs:SrcE am w I (.slice (some ⟨b,o,none⟩) (y::r).length cap) (y::r))(hn:(y::r).length≤1000000):
  Calls Tryz.prog 156 #[.slice (some ⟨b,o,none⟩) (y::r).length cap] w λe w'=>e=.returned (.int .i64 ((1+bJ y r:Nat):Int))/\Same w w':=by
 obtain⟨W,hW⟩:∃W,W=w.alloc (.cells #[.slice (some ⟨b,o,none⟩) (y::r).length cap] 143):=⟨_,rfl⟩
 have HK:Hid (Same w W):=hid (by rw[hW];exact(Kept.refl _ w).alloc _);have hq:W.cell? ⟨w.heap.size,0,none⟩=some (.slice (some ⟨b,o,none⟩) (y::r).length cap):=by rw[hW];simp
 have HC:=y7 W b o cap w.heap.size y I (y::r) (hs.same HK.out) hn (by simp) rfl hq;have HC2:Calls Tryz.prog 184 #[.slice (some ⟨b,o,none⟩) (y::r).length cap,Bv w.heap.size] W λe w'=>((e=.returned (.int .i64 (-1))/\(y::r).length=1+bJ y r)\/∃i:Nat,e=.returned (.int .i64 (i:Nat))/\i=1+bJ y r)/\w'=W:=HC.mono (by
  rintro e w' ⟨h,hw⟩;refine⟨?_,hw⟩;rcases h with⟨h1,h2⟩ | ⟨i,h1,h2,h3,h4⟩
  ·exact .inl ⟨h1,xk (.inl ⟨rfl,h2⟩)⟩
  ·exact .inr ⟨i,h1,xk (.inr ⟨h2,h3,h4⟩)⟩)
 clear HC;obtain⟨L,hL⟩:∃L,L=(y::r).length:=⟨_,rfl⟩
 rw[<-hL]at HC2 hq hW ⊢;obtain⟨f,hf⟩:∃f,f=1+bJ y r:=⟨_,rfl⟩
 rw[<-hf]at HC2 ⊢;clear hs hL hn hf;go_enter Tryz.func156,Tryz.ntmps156;go_wp2_with fail;rw[<-hW];clear hW;go_wp2_with fail;refine HC2.mono ?_;rintro e w2 ⟨h,hw2⟩;subst hw2;clear HC2;rcases h with⟨rfl,VR⟩ | ⟨i,rfl,NR⟩
 ·subst VR;go_wp2_with fail;go_ret;exact⟨rfl,HK.out⟩
 ·subst NR;go_wp2_with fail;go_ret;exact⟨rfl,HK.out⟩
end Go.Proofs.YtkhagfgineifhaaGreatDoor
