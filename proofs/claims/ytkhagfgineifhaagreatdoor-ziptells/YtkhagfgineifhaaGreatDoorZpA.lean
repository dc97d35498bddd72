import Derived.Test.YtkhagfgineifhaaGreatDoorZpM
import Derived.Test.YtkhagfgineifhaaGreatDoorLGets
import Derived.Test.YtkhagfgineifhaaGreatDoorBlk
import Derived.Test.YtkhagfgineifhaaGreatDoorSam
import Derived.WalkLawsBesides
set_option maxHeartbeats 400000
set_option maxRecDepth 100000
namespace Go.Proofs.YtkhagfgineifhaaGreatDoor
open Go.RowKit
def aG(e:Nat):Ending:=.panicked [{v:=.iface 26 (.int .i64 (e:Nat)),recovered:=false}]
theorem bh(w:World)(z:Value):Calls Tryz.prog 29 #[.bool true,z] w λe w'=>e=.returned (.tuple #[])/\w'=w:=by go_enter Tryz.func29,Tryz.ntmps29;go_wp2_with fail;go_end0;exact⟨rfl,rfl⟩
theorem aL(w:World)(n:Nat):Calls Tryz.prog 29 #[.bool false,.int .i64 (n:Nat)] w λe w'=>e=aG n/\w'=w:=by go_enter Tryz.func29,Tryz.ntmps29;go_wp2_with fail;exact⟨rfl,rfl,rfl⟩
structure Cur(N:Nat)(w:World)(c:Nat)(r:List Nat)(a:Option Addr)(cap:Nat):Prop where
 blk:Blk w c #[.slice a r.length cap] 84
 src:Src w (λk=>k<N) (.slice a r.length cap) r
 room:r.length<=cap
 new:N<=c
 byte:∀b∈r,b<256
 len:r.length<=2000000
 adr:a≠none
theorem Cur.kept{F:Nat->Prop}{N:Nat}{w w':World}{c:Nat}{r:List Nat}{a:Option Addr}{cap:Nat}(h:Cur N w c r a cap)(hk:Kept F w w')(h1:¬F c)(h2:∀k,k<N->¬F k):Cur N w' c r a cap:=
 ⟨h.blk.kept hk h1,h.src.kept hk (λk hk _=>h2 k hk),h.room,h.new,h.byte,h.len,h.adr⟩
structure Tkn(N:Nat)(w:World)(v:Value)(n:Nat)(x:List Nat):Prop where
 src:Src w (λk=>k<N) v x
 room:∀a m c,v=.slice a m c->m<=c
 len:x.length=n
 byte:∀b∈x,b<256
 shp:∃a c,v=.slice a n c
 adr:∀m c,v≠.slice none m c
theorem Tkn.kept{F:Nat->Prop}{N:Nat}{w w':World}{v:Value}{n:Nat}{x:List Nat}(h:Tkn N w v n x)(hk:Kept F w w')(h2:∀k,k<N->¬F k):Tkn N w' v n x:=⟨h.src.kept hk (λk hk _=>h2 k hk),h.room,h.len,h.byte,h.shp,h.adr⟩
theorem xB{n:Nat}{r x y:List Nat}(h:fi n r=some (x,y)):n<=r.length/\x=r.take n/\y=r.drop n:=by
 unfold fi at h;split at h
 ·simp only[Option.some.injEq,Prod.mk.injEq]at h;exact⟨by assumption,h.1.symm,h.2.symm⟩
 ·cases h
theorem Ga{n:Nat}{r:List Nat}(h:fi n r=none):r.length<n:=by
 unfold fi at h;split at h
 ·cases h
 ·omega
theorem Src.head8{w:World}{I:Nat->Prop}{a:Option Addr}{n cap:Nat}{bs:List Nat}(h:Src w I (.slice a bs.length cap) bs)(hn:n<=bs.length)(c':Nat):Src w I (.slice a n c') (bs.take n):=by obtain⟨ao,c,e,hs⟩:=h;simp only[Value.slice.injEq]at e;obtain⟨rfl,_,rfl⟩:=e;refine⟨a,c',by rw[List.length_take,Nat.min_eq_left hn],λbm=>?_⟩;obtain⟨b,o,h1,h2,h3⟩:=hs (λe=>bm (by rw[e];simp));refine⟨b,o,h1,h2,λj hj=>?_⟩;rw[List.length_take]at hj;rw[h3 j (by omega),List.getElem_take]
theorem Src.tail8{w:World}{I:Nat->Prop}{a a':Option Addr}{n cap c':Nat}{bs:List Nat}(h:Src w I (.slice a bs.length cap) bs)(hn:n<=bs.length)(ha:n<bs.length->∃b o,a=some ⟨b,o,none⟩/\a'=some ⟨b,o+n,none⟩):Src w I (.slice a' (bs.length-n) c') (bs.drop n):=by
 obtain⟨ao,c,e,hs⟩:=h;simp only[Value.slice.injEq]at e;obtain⟨rfl,_,rfl⟩:=e;refine⟨a',c',by rw[List.length_drop],λbm=>?_⟩;have hlt:n<bs.length:=by refine Classical.byContradiction (λhc=>bm ?_);exact List.drop_eq_nil_of_le (by omega)
 obtain⟨b,o,h1,h2,h3⟩:=hs (λe=>by rw[e]at hlt;simp at hlt);obtain⟨b',o',h4,h5⟩:=ha hlt;rw[h1]at h4;simp only[Option.some.injEq,Addr.mk.injEq,and_true]at h4;obtain⟨rfl,rfl⟩:=h4;refine⟨b,o+n,h5,h2,λj hj=>?_⟩;rw[List.length_drop]at hj;have:=h3 (n+j) (by omega);rw[<-Nat.add_assoc]at this;rw[this,List.getElem_drop]
def TakZ(N:Nat)(w w':World)(c n:Nat)(r:List Nat)(e:Ending):Prop:=
 (∀x y,fi n r=some (x,y)->∃v a' cap',e=.returned v/\Tkn N w' v n x/\Cur N w' c y a' cap'/\Kept (·=c) w w')/\(fi n r=none->e=aG 81/\Same w w')
theorem TakZ.good{N:Nat}{w w':World}{c n:Nat}{r x y:List Nat}{e:Ending}(ht:fi n r=some (x,y)){v:Value}{a':Option Addr}{cap':Nat}(he:e=.returned v)(h1:Tkn N w' v n x)(h2:Cur N w' c y a' cap')(h3:Kept (·=c) w w'):TakZ N w w' c n r e:=
 ⟨λx' y' h=>by rw[ht]at h;simp only[Option.some.injEq,Prod.mk.injEq]at h;obtain⟨rfl,rfl⟩:=h;exact⟨v,a',cap',he,h1,h2,h3⟩,λh=>by rw[ht]at h;cases h⟩
theorem TakZ.bad{N:Nat}{w w':World}{c n:Nat}{r:List Nat}{e:Ending}(ht:fi n r=none)(he:e=aG 81)(h3:Same w w'):TakZ N w w' c n r e:=
 ⟨λx' y' h=>(by rw[ht]at h;cases h),λ_=>⟨he,h3⟩⟩
theorem Cur.cut{N:Nat}{w:World}{c:Nat}{r:List Nat}{a a':Option Addr}{cap n:Nat}(h:Cur N w c r a cap)(hn:n<=r.length)(ha:n<r.length->∃b o,a=some ⟨b,o,none⟩/\a'=some ⟨b,o+n,none⟩)(Sf:a'≠none)(u:Value)(hu:u=.slice a' (r.length-n) (cap-n)):Tkn N (w.setCell ⟨c,0,none⟩ u) (.slice a n cap) n (r.take n)/\Cur N (w.setCell ⟨c,0,none⟩ u) c (r.drop n) a' (cap-n)/\Kept (·=c) w (w.setCell ⟨c,0,none⟩ u):=by
 have hk:Kept (·=c) w (w.setCell ⟨c,0,none⟩ u):=(Kept.refl (·=c) w).setCell _ _ (.inl rfl);have hN:=h.new;have hr:=h.room;refine⟨⟨(h.src.head8 hn cap).kept hk (λk h1 _ e=>by omega),λa9 m9 c9 e9=>by simp only[Value.slice.injEq]at e9;omega,by rw[List.length_take,Nat.min_eq_left hn],λb hb=>h.byte b (List.mem_of_mem_take hb),⟨a,cap,rfl⟩,λm c e=>h.adr (by simp only[Value.slice.injEq]at e;exact e.1)⟩,⟨?_,?_,by rw[List.length_drop];omega,hN,λb hb=>h.byte b (List.mem_of_mem_drop hb),by have:=h.len;rw[List.length_drop];omega,Sf⟩,hk⟩
 ·have:=h.blk.set 0 u;rw[List.length_drop,<-hu];simpa using this
 ·have h9:=h.src.tail8 (a':=a') (c':=cap-n) hn ha;rw[List.length_drop];exact h9.kept hk (λk h1 _ e=>by omega)
theorem eE(N:Nat)(w:World)(c:Nat)(r:List Nat)(a:Option Addr)(cap n:Nat)(h:Cur N w c r a cap)(hn:n≤2000000):
  Calls Tryz.prog 71 #[.pointer (some ⟨c,0,none⟩),.int .i64 (n:Nat)] w λe w'=>TakZ N w w' c n r e:=by
 have c0:=h.blk.cell 0;have z0:=h.blk.frozen 0;simp at c0;have HC:Hid (Cur N w c r a cap):=h;obtain⟨L,hL⟩:∃L,L=r.length:=⟨_,rfl⟩
 have HLr:Hid (L=r.length):=hL;have Q9:L<=2000000:=by have:=h.len;omega
 have ZU:L<=cap:=by have:=h.room;omega
 rw[<-hL]at c0;clear h;cases ht:fi n r with
 | none=>
  have HTK:Hid (fi n r=none):=ht;have hlt:=Ga ht;have b2:decide (n<=L)=false:=(by simp;omega);have HB:=aL w 81;clear hlt ht hL;go_enter Tryz.func71,Tryz.ntmps71;go_wp2_with fail;refine HB.mono ?_;rintro e w1 ⟨rfl,hw1⟩;subst hw1;unfold aG;go_wp2_with fail;exact⟨rfl,TakZ.bad HTK.out rfl (Kept.refl _ _)⟩
 | some p=>
  obtain⟨x,y⟩:=p;have HTK:Hid (fi n r=some (x,y)):=ht;obtain⟨mr,hx,hy⟩:=xB ht;have HXY:Hid (n<=r.length/\x=r.take n/\y=r.drop n):=hid ⟨mr,hx,hy⟩;have b2:decide (n<=L)=true:=(by simp;omega);have HOK:=bh w (.int .i64 81);have Fb:n<=cap:=(by omega);have i1:(0:Int)<=(n:Int):=(by omega);have i2:(n:Int)<=(cap:Int):=(by omega);have i3:(n:Int)<=(L:Int):=(by omega);have i4:(L:Int)<=(cap:Int):=(by omega);have HAD:Hid (n<r.length->∃b o,a=some ⟨b,o,none⟩):=hid (λh8=>by
   obtain⟨ao,co,e9,h9⟩:=HC.out.src;simp only[Value.slice.injEq]at e9;obtain⟨b,o,h1,_⟩:=h9 (λe=>by rw[e]at h8;simp at h8);exact⟨b,o,by rw[e9.1];exact h1⟩)
  clear ht hL mr hx hy;by_cases tN:cap=n
  ·obtain rfl:L=n:=by omega
   subst tN;go_enter Tryz.func71,Tryz.ntmps71;go_wp2_with fail;refine HOK.mono ?_;rintro e w1 ⟨rfl,hw1⟩;subst hw1;clear HOK;go_wp2_with fail;go_ret;have OI:=HLr.out;obtain⟨h1,h2,h3⟩:=HC.out.cut (n:=cap) (a':=a) HXY.out.1 (λh8=>by omega) HC.out.adr (.slice a 0 0) (by rw[<-OI];simp);exact TakZ.good HTK.out rfl (by rw[HXY.out.2.1];exact h1) (by rw[HXY.out.2.2];exact h2) h3
  ·go_enter Tryz.func71,Tryz.ntmps71;go_wp2_with fail;refine HOK.mono ?_;rintro e w1 ⟨rfl,hw1⟩;subst hw1;clear HOK;go_wp2_with fail;go_ret;have OI:=HLr.out;obtain⟨h1,h2,h3⟩:=HC.out.cut (n:=n) (a':=a.map (Addr.add · n)) HXY.out.1 (λh8=>by obtain⟨b9,o9,Fa⟩:=HAD.out h8;exact⟨b9,o9,Fa,by rw[Fa];simp[cf]⟩) (λe=>HC.out.adr (by cases h9:a with | none=>rfl | some x=>rw[h9]at e;cases e)) (.slice (a.map (Addr.add · n)) (L-n) (cap-n)) (by rw[<-OI]);exact TakZ.good HTK.out rfl (by rw[HXY.out.2.1];exact h1) (by rw[HXY.out.2.2];exact h2) h3
end Go.Proofs.YtkhagfgineifhaaGreatDoor
