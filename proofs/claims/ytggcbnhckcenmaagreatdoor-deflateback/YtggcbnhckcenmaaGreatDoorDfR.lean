import Derived.Test.YtggcbnhckcenmaaGreatDoorDfQ
import Derived.Test.YtggcbnhckcenmaaGreatDoorInLw
namespace Go.Proofs.YtggcbnhckcenmaaGreatDoor
open Go.RowKit

structure StD(w:World)(h:Nat)(v:Value)(c:Bool)(bs:List Nat):Prop where
 blk:Blk w h #[v,.bool c] 67
 row:Row w v bs
 off:∀k,v.ownBlock=some k→k≠h
 byte:∀b∈bs,b<256

theorem StD.kept{F:Nat→Prop}{w w':World}{h:Nat}{v:Value}{c:Bool}{bs:List Nat}(s:StD w h v c bs)(hk:Kept F w w')(h1:¬F h)(h2:∀k,v.ownBlock=some k→¬F k):StD w' h v c bs:=
 ⟨s.blk.kept hk h1,s.row.kept hk h2,s.off,s.byte⟩

theorem nil_row7(w:World):Row w (.slice none 0 0) []:=⟨by simp,.inl ⟨rfl,rfl⟩⟩

set_option maxHeartbeats 400000 in
theorem dnew_any(w:World):Calls Tryz.prog 23 #[] w fun e w'=>e=.returned (.pointer (some ⟨w.heap.size,0,none⟩))∧StD w' w.heap.size (.slice none 0 0) false []∧Same w w':=by
 go_enter Tryz.func23,Tryz.ntmps23
 go_wp2_with fail
 go_ret
 exact⟨rfl,⟨Blk.new w _ _,nil_row7 _,(fun k e=>nomatch e),(fun b hb=>nomatch hb)⟩,(Kept.refl _ w).alloc _⟩

set_option maxHeartbeats 400000 in
theorem dclose_shut(w:World)(h:Nat)(v:Value)(bs:List Nat)(hs:StD w h v true bs):Calls Tryz.prog 26 #[.pointer (some ⟨h,0,none⟩)] w fun e w'=>e=.returned (.tuple #[.slice none 0 0,.int .i64 1])∧w'=w:=by
 have b1:=hs.blk.cell 1
 simp at b1
 clear hs
 go_enter Tryz.func26,Tryz.ntmps26
 go_wp2_with fail
 go_ret2
 exact⟨rfl,rfl⟩

set_option maxRecDepth 100000 in
set_option maxHeartbeats 400000 in
theorem dfeed_good(w:World)(h:Nat)(v:Value)(bs:List Nat)(hs:StD w h v false bs)(I:Nat→Prop)(d:Value)(data:List Nat)(hd:Src w I d data)(hb:∀b∈data,b<256)(hnil:∀n c,d=.slice none n c→n=0∧c=0)(hl:bs.length+data.length≤16384):
  Calls Tryz.prog 24 #[.pointer (some ⟨h,0,none⟩),d] w fun e w'=>e=.returned (.tuple #[.slice none 0 0,.int .i64 0])∧Kept (fun k=>k=h∨v.ownBlock=some k) w w'∧∃v',StD w' h v' false (bs++data)∧(v'.ownBlock=v.ownBlock∨v'.ownBlock=some w.heap.size):=by
 have b1:=hs.blk.cell 1
 have b0:=hs.blk.cell 0
 have z0:=hs.blk.frozen 0
 simp at b0 b1
 have HS:Hid (StD w h v false bs):=hs
 obtain⟨av,cv,hv,_⟩:=hs.row.shape
 obtain⟨m,hm⟩:∃m,m=bs.length:=⟨_,rfl⟩
 rw[←hm]at hv
 subst hv
 obtain⟨ad,cd,hdv,_⟩:=id hd
 obtain⟨n,hn⟩:∃n,n=data.length:=⟨_,rfl⟩
 rw[←hn]at hdv
 subst hdv
 obtain⟨r,hr⟩:∃r,r=16384-m:=⟨_,rfl⟩
 have hsub:(16384:Int)-(m:Int)=(r:Int):=by omega
 have hle:n≤r:=by omega
 have HD:Hid (Src w I (.slice ad n cd) data):=hd
 have HNIL:Hid (∀n' c,Value.slice ad n cd=.slice none n' c→n'=0∧c=0):=hnil
 have HBY:Hid (∀b∈data,b<256):=hb
 have HLEN:Hid (bs.length+data.length≤1000000000000):=hid (by omega)
 have hm16:m≤16384:=by omega
 have hn16:n≤16384:=by omega
 clear hs hd hnil hb hl hm hn hr
 go_enter Tryz.func24,Tryz.ntmps24
 go_wp2_with (at_builtin;refine wpList_append_any _ rfl (.tmp 28) (.tmp 29) rfl _ bs rfl HS.out.row I (.slice ad n cd) data rfl HNIL.out HD.out HLEN.out ?_)
 intro v1 w1 hr1 hg1 ho1
 have hk1:Kept (fun k=>(Value.slice av m cv).ownBlock=some k) w w1:=(Kept.refl _ w).grown hg1 (fun k e=>.inl e)
 have HB1:Hid (Blk w1 h #[.slice av m cv,.bool false] 67):=hid (HS.out.blk.kept hk1 (fun e=>HS.out.off h e rfl))
 have c0:=HB1.out.cell 0
 have y0:=HB1.out.frozen 0
 simp at c0
 have HR1:Hid (Row w1 v1 (bs++data)):=hr1
 have HK1:Hid (Kept (fun k=>(Value.slice av m cv).ownBlock=some k) w w1):=hk1
 have HO1:Hid (v1.ownBlock=(Value.slice av m cv).ownBlock∨v1.ownBlock=some w.heap.size):=ho1
 obtain⟨a1,c1,hv1,_⟩:=hr1.shape
 obtain⟨n1,hn1⟩:∃n,n=(bs++data).length:=⟨_,rfl⟩
 rw[←hn1]at hv1
 subst hv1
 clear hr1 hg1 ho1 hk1 b0 b1 z0 hn1
 go_wp2_with fail
 go_ret2
 have hoff:∀k,(Value.slice a1 n1 c1).ownBlock=some k→k≠h:=fun k e=>by
  rcases HO1.out with h9 | h9
  ·rw[h9]at e;exact HS.out.off k e
  ·rw[h9]at e;injection e with e;have:=HS.out.blk.lt;omega
 have hk2:Kept (·=h) w1 (w1.setCell ⟨h,0,none⟩ (.slice a1 n1 c1)):=(Kept.refl (·=h) w1).setCell _ _ (.inl rfl)
 refine⟨rfl,Kept.trans (HK1.out.mono (fun _ _ e=>.inr e)) hk2 (fun _ _ x=>x) (fun _ _ x=>.inl x),_,⟨?_,HR1.out.kept hk2 (fun k e f=>hoff k e f),hoff,fun b hb=>?_⟩,HO1.out⟩
 ·have:=HB1.out.set 0 (.slice a1 n1 c1)
  simpa using this
 ·rcases List.mem_append.1 hb with h9 | h9
  ·exact HS.out.byte b h9
  ·exact HBY.out b h9

set_option maxRecDepth 100000 in
set_option maxHeartbeats 400000 in
theorem dclose_good(w:World)(h:Nat)(v:Value)(bs:List Nat)(hs:StD w h v false bs)(hl:bs.length≤16384)(hT:Tab w):
  Calls Tryz.prog 26 #[.pointer (some ⟨h,0,none⟩)] w fun e w'=>∃v' x,e=.returned (.tuple #[v',.int .i64 0])∧Row w' v' x∧(∀b∈x,b<256)∧(∀k,v'.ownBlock=some k→w.heap.size≤k)∧PDef bs x∧Kept (·=h) w w'∧StD w' h (.slice none 0 0) true []:=by
 have b1:=hs.blk.cell 1
 have b0:=hs.blk.cell 0
 simp at b0 b1
 have HS:Hid (StD w h v false bs):=hs
 obtain⟨av,cv,hv,_⟩:=hs.row.shape
 obtain⟨m,hm⟩:∃m,m=bs.length:=⟨_,rfl⟩
 rw[←hm]at hv
 subst hv
 have HD:=deflate_any w _ _ bs (Src.ofRow hs.row) hs.byte (Row.nil5 hs.row) hl hT
 clear hs hl hT hm
 go_enter Tryz.func26,Tryz.ntmps26
 go_wp2_with fail
 refine HD.mono ?_
 rintro e w1 ⟨v1,x,rfl,hn1,hp1⟩
 have HN1:Hid (NB w w1 v1 x):=hn1
 have HP1:Hid (PDef bs x):=hp1
 have HB1:Hid (Blk w1 h #[.slice av m cv,.bool false] 67):=hid (HS.out.blk.kept hn1.same (fun f=>f))
 have c0:=HB1.out.cell 0
 have c1:=HB1.out.cell 1
 have y0:=HB1.out.frozen 0
 have y1:=HB1.out.frozen 1
 simp at c0 c1
 obtain⟨a1,p1,hv1,_⟩:=hn1.row.shape
 obtain⟨n1,hn9⟩:∃n,n=x.length:=⟨_,rfl⟩
 rw[←hn9]at hv1
 subst hv1
 clear hn1 hp1 HD b0 b1 hn9
 go_wp2_with fail
 go_ret2
 have hk2:Kept (·=h) w1 ((w1.setCell ⟨h,0,none⟩ (.slice none 0 0)).setCell ⟨h,1,none⟩ (.bool true)):=((Kept.refl (·=h) w1).setCell _ _ (.inl rfl)).setCell _ _ (.inl rfl)
 refine⟨_,x,rfl,HN1.out.row.kept hk2 (fun k e f=>?_),HN1.out.byte,HN1.out.new,HP1.out,Kept.trans (HN1.out.same.mono (fun _ _ f=>f.elim)) hk2 (fun _ _ x=>x) (fun _ _ x=>x),⟨?_,nil_row7 _,(fun k e=>nomatch e),(fun b hb=>nomatch hb)⟩⟩
 ·have h1:=HN1.out.new k e
  have h2:=HS.out.blk.lt
  omega
 ·have:=(HB1.out.set 0 (.slice none 0 0)).set 1 (.bool true)
  simpa using this

end Go.Proofs.YtggcbnhckcenmaaGreatDoor
