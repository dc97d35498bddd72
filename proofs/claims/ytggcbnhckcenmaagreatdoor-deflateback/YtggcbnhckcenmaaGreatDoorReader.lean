import Derived.Test.YtggcbnhckcenmaaGreatDoorCut
import Derived.Test.YtggcbnhckcenmaaGreatDoorWriter
namespace Go.Proofs.YtggcbnhckcenmaaGreatDoor
open Go.RowKit

theorem ret_int{k:IntKind}{a b:Int}(h:a=b):Ending.returned (.int k a)=.returned (.int k b):=by rw[h]

theorem left_any(p c:Nat)(s:Value)(bs:List Nat)(w:World)(h:St w p s bs c)(hc:c≤8*bs.length)(hlen:bs.length≤100000000000):
  Calls Tryz.prog 108 #[.pointer (some ⟨p,0,none⟩)] w fun e w'=>e=.returned (.int .i64 ((8*bs.length-c:Nat):Int))∧∃m,w'=w.drewN m:=by
 obtain⟨ao,cap,hv,_⟩:=h.row.shape
 have hcb:=h.cb
 have hcc:=h.cc
 rw[hv]at hcb
 clear h hv
 go_enter Tryz.func108,Tryz.ntmps108
 go_wp2
 go_quiet (fail)
 go_wp2
 go_ret
 exact⟨ret_int (by omega),_,rfl⟩

theorem gone_any(p c:Nat)(s:Value)(bs:List Nat)(w:World)(h:St w p s bs c):
  Calls Tryz.prog 74 #[.pointer (some ⟨p,0,none⟩)] w fun e w'=>e=.returned (.int .i64 (c:Nat))∧w'=w:=by
 have hcc:=h.cc
 clear h
 go_enter Tryz.func74,Tryz.ntmps74
 go_wp2
 go_ret
 exact⟨rfl,rfl⟩

theorem back_bad(p c:Nat)(n:Int)(s:Value)(bs:List Nat)(w:World)(h:St w p s bs c)(hn:n<0∨(c:Int)<n):
  Calls Tryz.prog 165 #[.pointer (some ⟨p,0,none⟩),.int .i64 n] w fun e w'=>e=.returned (.int .i64 1)∧w'=w:=by
 have hcc:=h.cc
 clear h
 by_cases h0:n<0
 ·clear hn
  go_enter Tryz.func165,Tryz.ntmps165
  go_wp2
  go_ret
  exact⟨rfl,rfl⟩
 ·have h1:(c:Int)<n:=by omega
  clear hn
  go_enter Tryz.func165,Tryz.ntmps165
  go_wp2
  go_ret
  exact⟨rfl,rfl⟩

theorem back_good(p c n:Nat)(s:Value)(bs:List Nat)(w:World)(h:St w p s bs c)(hn:n≤c)(hc:c≤1000000000000):
  Calls Tryz.prog 165 #[.pointer (some ⟨p,0,none⟩),.int .i64 (n:Nat)] w fun e w'=>e=.returned (.int .i64 0)∧St w' p s bs (c-n)∧Kept (·=p) w w':=by
 have hcc:=h.cc
 have hfc:=h.fc
 have HS:Hid (St w p s bs c):=h
 clear h
 go_enter Tryz.func165,Tryz.ntmps165
 go_wp2
 go_ret
 refine⟨rfl,?_,(Kept.refl _ w).setCell _ _ (.inl rfl)⟩
 have:=HS.out.setCount (c-n)
 rw[show((c-n:Nat):Int)=(c:Int)-(n:Int)by omega]at this
 exact this

theorem ralign_any(p c:Nat)(s:Value)(bs:List Nat)(w:World)(h:St w p s bs c)(hc:c≤1000000000000):
  Calls Tryz.prog 77 #[.pointer (some ⟨p,0,none⟩)] w fun e w'=>e=.returned (.int .i64 0)∧St w' p s bs ((c+7) / 8*8)∧Kept (·=p) w w':=by
 have hcc:=h.cc
 have hfc:=h.fc
 have HS:Hid (St w p s bs c):=h
 clear h
 go_enter Tryz.func77,Tryz.ntmps77
 go_wp2
 go_ret
 refine⟨rfl,?_,(Kept.refl _ w).setCell _ _ (.inl rfl)⟩
 have:=HS.out.setCount ((c+7) / 8*8)
 rw[show(((c+7) / 8*8:Nat):Int)=((c:Int)+8-1) / 8*8 by omega]at this
 exact this

set_option maxHeartbeats 400000 in
theorem take_end(p c n:Nat)(s:Value)(bs:List Nat)(w:World)(h:St w p s bs c)(hc:c≤8*bs.length)(hlen:bs.length≤100000000000)(hn:n≤32)(hm:8*bs.length<c+n):
  Calls Tryz.prog 70 #[.pointer (some ⟨p,0,none⟩),.int .i64 (n:Nat)] w fun e w'=>e=.returned (.tuple #[.int .u32 0,.int .i64 10])∧∃m,w'=w.drewN m:=by
 have hd:decide (0≤(n:Int)∧(n:Int)≤32)=true:=by simp;omega
 have hh:((8*bs.length-c:Nat):Int)<(n:Int):=by omega
 have HC:=left_any p c s bs w h hc hlen
 obtain⟨q,hq⟩:∃q,q=8*bs.length-c:=⟨_,rfl⟩
 rw[←hq]at HC hh
 clear h hc hlen hm hq
 go_enter Tryz.func70,Tryz.ntmps70
 go_wp2_with (first | (go_at_call 82;refine(fits_any _ _).mono ?_;rintro e w' ⟨rfl,rfl⟩;rw[hd]) | (go_at_call 108;refine HC.mono ?_;rintro e w' ⟨rfl,mq,rfl⟩))
 go_ret2
 exact⟨rfl,_,rfl⟩

set_option maxHeartbeats 400000 in
theorem take_good(p c n:Nat)(s:Value)(bs:List Nat)(w:World)(h:St w p s bs c)(hlen:bs.length≤100000000000)(hn:n≤32)(hm:c+n≤8*bs.length):
  Calls Tryz.prog 70 #[.pointer (some ⟨p,0,none⟩),.int .i64 (n:Nat)] w fun e w'=>e=.returned (.tuple #[.int .u32 (n256 bs / 2 ^ c % 2 ^ n:Nat),.int .i64 0]) ∧
   St w' p s bs (c+n)∧Kept (·=p) w w':=by
 have hd:decide (0≤(n:Int)∧(n:Int)≤32)=true:=by simp;omega
 have hh:¬((8*bs.length-c:Nat):Int)<(n:Int):=by omega
 have HC:=left_any p c s bs w h (by omega) hlen
 have HD:=fun m=>cut_any (w.drewN m) p s bs c n (h.drewN m) hn hm hlen
 obtain⟨q,hq⟩:∃q,q=8*bs.length-c:=⟨_,rfl⟩
 rw[←hq]at HC hh
 clear h hlen hm hq
 go_enter Tryz.func70,Tryz.ntmps70
 go_wp2_with (first | (go_at_call 82;refine(fits_any _ _).mono ?_;rintro e w' ⟨rfl,rfl⟩;rw[hd]) | (go_at_call 108;refine HC.mono ?_;rintro e w' ⟨rfl,mq,rfl⟩) | (go_at_call 109;refine(HD mq).mono ?_;rintro e w' ⟨rfl,hs',hk'⟩))
 go_ret2
 exact⟨rfl,hs',⟨hk'.os,hk'.tape,hk'.output,hk'.size,hk'.block⟩⟩

set_option maxHeartbeats 400000 in
theorem newReader_any(v:Value)(I:Nat→Prop)(cs:List Nat)(w:World)(h:Src w I v cs)(hlen:cs.length≤100000000000)(hb:∀b∈cs,b<256):
  Calls Tryz.prog 69 #[v] w fun e w'=>∃p s,e=.returned (.pointer (some ⟨p,0,none⟩))∧St w' p s cs 0∧Kept (fun _=>False) w w'∧(∀k,Fp p s k→w.heap.size≤k):=by
 obtain⟨ao,cap,rfl,hsrc⟩:=id h
 have HS:Hid (Src w I (.slice ao cs.length cap) cs):=h
 clear h hsrc
 go_enter Tryz.func69,Tryz.ntmps69
 go_wp2_with (first | (at_make;refine wpList_make_bytes _ rfl _ _ rfl _ _ _ _ cs.length rfl rfl rfl rfl (by omega) ?_;intro w1 hr1 hg1 hs1;have HR:Hid (Row w1 (.slice (some ⟨w.heap.size,0,none⟩) cs.length cs.length) (List.replicate cs.length 0)):=hr1;have HK:Hid (Kept (fun _=>False) w w1):=(Kept.refl _ w).grown hg1 (by simp);clear hr1 hg1) | (with_reducible refine atCopy ?_;refine wpList_copy_bytes _ rfl (.tmp 12) (.tmp 13) rfl w.heap.size cs.length cs.length ao cs.length cap (List.replicate cs.length 0) cs I rfl rfl (World.ownsRow.alloc HR.out _) (HS.out.kept (HK.out.alloc _) (fun _ _ _ h=>h)) (by simp) ?_;intro w2 hr2 hg2 hs2))
 go_ret
 have hk2:Kept (·=w.heap.size) (w1.alloc (.cells #[.slice (some ⟨w.heap.size,0,none⟩) cs.length cs.length,.int .i64 0] 141)) w2:=(Kept.refl _ _).grown hg2 (fun k e=>.inl (by simpa using e.symm))
 have hne:¬w1.heap.size=w.heap.size:=by omega
 refine⟨w1.heap.size,.slice (some ⟨w.heap.size,0,none⟩) cs.length cs.length,rfl,⟨hk2.cell (by simp) hne,hk2.cell (by simp) hne,(hk2.frozen (by simp) hne).trans (by simp),(hk2.frozen (by simp) hne).trans (by simp),?_,by simp[Value.ownBlock];omega,hb⟩,?_,?_⟩
 ·simpa using hr2
 ·exact Kept.trans (H:=fun _=>False) (HK.out.alloc _) hk2 (fun _ _ h=>h) (fun x hx e=>by omega)
 ·intro k hk
  rcases hk with rfl | hk
  ·exact HK.out.size
  ·simp[Value.ownBlock]at hk;omega

set_option maxHeartbeats 400000 in
theorem wbytes_any(p X c:Nat)(s:Value)(w:World)(h:Wr w p s X c)(hc:c≤100000000000):
  Calls Tryz.prog 57 #[.pointer (some ⟨p,0,none⟩)] w fun e w'=>∃g bs,e=.returned (.slice (some ⟨g,0,none⟩) bs.length bs.length)∧Row w' (.slice (some ⟨g,0,none⟩) bs.length bs.length) bs∧(∀b∈bs,b<256) ∧
   n256 bs=X∧bs.length=(c+7) / 8∧Kept (fun _=>False) w w'∧w.heap.size≤g:=by
 obtain⟨bs,hst,hX,hlo,hhi⟩:=h.ex
 obtain⟨ao,cap,hv,_⟩:=hst.row.shape
 have hcb:=hst.cb
 have hcb1:∀w1,Kept (fun _=>False) w w1→w1.cell? ⟨p,0,none⟩=some (.slice ao bs.length cap):=fun w1 hk=>hk.cell (by rw[hcb,hv]) (fun h=>h)
 rw[hv]at hcb
 have HS:Hid (Src w (fun k=>(Value.slice ao bs.length cap).ownBlock=some k) (.slice ao bs.length cap) bs):=by have:=Src.ofRow hst.row;rw[hv]at this;exact this
 have HB:Hid (∀b∈bs,b<256):=hst.byte
 have HX:Hid (n256 bs=X):=hX
 have hlen:bs.length≤100000000000:=by omega
 have HL:Hid (bs.length=(c+7) / 8):=by show _=_;omega
 clear h hst hX hlo hhi hc hv
 go_enter Tryz.func57,Tryz.ntmps57
 go_wp2_with (first | (at_make;refine wpList_make_bytes _ rfl _ _ rfl _ _ _ _ bs.length rfl rfl rfl rfl (by omega) ?_;intro w1 hr1 hg1 hs1;have HR:Hid (Row w1 (.slice (some ⟨w.heap.size,0,none⟩) bs.length bs.length) (List.replicate bs.length 0)):=hr1;have HK:Hid (Kept (fun _=>False) w w1):=(Kept.refl _ w).grown hg1 (by simp);have hcb2:=hcb1 w1 HK.out;clear hr1 hg1) | (with_reducible refine atCopy ?_;refine wpList_copy_bytes _ rfl (.tmp 12) (.tmp 16) rfl w.heap.size bs.length bs.length ao bs.length cap (List.replicate bs.length 0) bs _ rfl rfl HR.out (HS.out.kept HK.out (fun _ _ _ h=>h)) (by simp) ?_;intro w2 hr2 hg2 hs2))
 go_ret
 refine⟨w.heap.size,bs,rfl,by simpa using hr2,HB.out,HX.out,HL.out,?_,Nat.le_refl _⟩
 refine HK.out.grown hg2 (fun k e=>.inr ?_)
 simp at e;omega

set_option maxHeartbeats 400000 in
theorem keepBytes_any(va vb:Value)(I J:Nat→Prop)(xs ys:List Nat)(w:World)(ha:Src w I va xs)(hb:Src w J vb ys)(hx:xs.length≤1000000000000)(hy:ys.length≤1000000000000):
  Calls Tryz.prog 13 #[va,vb] w fun e w'=>e=.returned (.bool (decide (xs=ys)))∧∃m,w'=w.drewN m:=by
 obtain⟨ao,ca,rfl,hsa⟩:=id ha
 obtain⟨bo,cb,rfl,hsb⟩:=id hb
 clear ha hb
 by_cases hl:xs.length=ys.length
 ·have HL:Hid (xs.length=ys.length):=hl
  have hd:((xs.length:Int) != (ys.length:Int))=false:=by simp[hl]
  clear hl
  go_enter Tryz.func13,Tryz.ntmps13
  go_wp2
  clear hd
  go_loopg [5] xs.length (fun k i wr=>∃j:Nat,j≤xs.length∧xs.length-j≤k∧i=.int .i64 j∧(∃m,wr=w.drewN m)∧xs.take j=ys.take j)
  case atStart=>exact⟨0,by omega,by omega,rfl,⟨0,rfl⟩,by simp⟩
  case round=>
   obtain⟨j,hj,hjk,rfl,⟨m,rfl⟩,ht⟩:=hrel
   have HT:Hid (xs.take j=ys.take j):=ht
   clear ht
   by_cases hlt:j<xs.length
   ·have hlt2:j<ys.length:=by have:=HL.out;omega
    obtain⟨a,oa,rfl,_,hca⟩:=hsa (by intro e;rw[e]at hlt;simp at hlt)
    obtain⟨b,ob,rfl,_,hcb⟩:=hsb (by intro e;rw[e]at hlt2;simp at hlt2)
    have hc1:=hca j hlt
    have hc2:=hcb j hlt2
    obtain⟨x,hx1⟩:∃x,x=xs[j]:=⟨_,rfl⟩
    obtain⟨y,hy1⟩:∃y,y=ys[j]:=⟨_,rfl⟩
    rw[←hx1]at hc1
    rw[←hy1]at hc2
    have HX:Hid (x=xs[j]):=hx1
    have HY:Hid (y=ys[j]):=hy1
    clear hca hcb hsa hsb hx1 hy1
    by_cases he:x=y
    ·have hd:((x:Int) != (y:Int))=false:=by simp[he]
     have HE:Hid (x=y):=he
     clear he
     go_wp2
     go_quiet (fail)
     go_wp2
     go_roundg (gk-1)
     case measure=>omega
     case rel=>exact⟨j+1,by omega,by omega,by go_num,⟨_,rfl⟩,by rw[List.take_succ_eq_append_getElem hlt,List.take_succ_eq_append_getElem hlt2,HT.out,←HX.out,←HY.out,HE.out]⟩
    ·have hd:((x:Int) != (y:Int))=true:=by simp;omega
     go_wp2
     go_quiet (fail)
     go_wp2
     go_ret
     refine⟨?_,_,drewN_add _ _ _⟩
     have:¬xs=ys:=by intro e;subst e;exact he (HX.out.trans HY.out.symm)
     simp[this]
   ·clear hsa hsb
    go_wp2
    go_ret
    refine⟨?_,_,rfl⟩
    have h1:=HT.out
    have h2:=HL.out
    rw[List.take_of_length_le (by omega),List.take_of_length_le (by omega)]at h1
    simp[h1]
 ·have hd:((xs.length:Int) != (ys.length:Int))=true:=by simp;omega
  have HL:Hid (¬xs.length=ys.length):=hl
  clear hl
  go_enter Tryz.func13,Tryz.ntmps13
  go_wp2
  go_ret
  have:¬xs=ys:=by intro e;exact HL.out (by rw[e])
  exact⟨by simp[this],0,rfl⟩

end Go.Proofs.YtggcbnhckcenmaaGreatDoor
