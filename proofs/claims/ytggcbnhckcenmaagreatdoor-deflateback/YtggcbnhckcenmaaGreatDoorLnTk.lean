import Derived.Test.YtggcbnhckcenmaaGreatDoorLnShape
import Derived.Test.YtggcbnhckcenmaaGreatDoorLnRep
import Derived.Test.YtggcbnhckcenmaaGreatDoorHNew
import Derived.Test.YtggcbnhckcenmaaGreatDoorHDec2
import Derived.Test.YtggcbnhckcenmaaGreatDoorReader
namespace Go.Proofs.YtggcbnhckcenmaaGreatDoor
open Go.RowKit

def numsAt(ls:List Nat)(c:Nat):List Nat→List Nat
 | []=>[]
 | n::r=>numAt ls c n::numsAt ls (c+n) r

theorem numsAt_snoc(ls:List Nat)(c:Nat)(ws:List Nat)(n:Nat):numsAt ls c (ws++[n])=numsAt ls c ws++[numAt ls (c+ws.sum) n]:=by
 induction ws generalizing c with
 | nil=>simp[numsAt]
 | cons a r ih=>simp only[List.cons_append,numsAt,ih,List.sum_cons,Nat.add_assoc]

theorem numsAt_length(ls:List Nat)(c:Nat)(ws:List Nat):(numsAt ls c ws).length=ws.length:=by
 induction ws generalizing c with
 | nil=>rfl
 | cons a r ih=>simp[numsAt,ih]

theorem sum_take_le(ws:List Nat)(i:Nat)(hi:i<ws.length):(ws.take i).sum+ws[i]≤ws.sum:=by
 have h:(ws.take (i+1)).sum+(ws.drop (i+1)).sum=ws.sum:=by rw[←List.sum_append,List.take_append_drop]
 rw[List.take_succ_eq_append_getElem hi,List.sum_append]at h
 simp at h
 omega

theorem num_bits(bs:List Nat)(hb:∀b∈bs,b<256)(c n:Nat)(h:c+n≤8*bs.length):n256 bs / 2 ^ c % 2 ^ n=numAt (ofBytes bs) c n:=(left_n2 bs hb c n h).symm

def TakeA(w w':World)(p:Nat)(s:Value)(bs:List Nat)(c:Nat)(ws:List Nat)(e:Ending):Prop:=
 (c+ws.sum≤8*bs.length∧(∃v',e=.returned (.tuple #[v',.int .i64 0])∧NRow w.heap.size w' v' (numsAt (ofBytes bs) c ws))∧St w' p s bs (c+ws.sum)) ∨
 (8*bs.length<c+ws.sum∧e=.returned (.tuple #[.slice none 0 0,.int .i64 10])∧∃c',c≤c'∧c'≤8*bs.length∧St w' p s bs c')

set_option maxRecDepth 100000 in
set_option maxHeartbeats 2000000 in
theorem ltake_any(w:World)(p c:Nat)(s:Value)(bs:List Nat)(v:Value)(I:Nat→Prop)(ws:List Nat)(hst:St w p s bs c)(hc:c≤8*bs.length)(hlen:bs.length≤100000000)(hs:SrcE natV w I v ws)(hI:∀k,I k→k≠p)(hws:∀n∈ws,n≤32)(hwl:ws.length≤1000):
  Calls Tryz.prog 176 #[.pointer (some ⟨p,0,none⟩),v] w fun e w'=>TakeA w w' p s bs c ws e∧Kept (·=p) w w':=by
 obtain⟨ao,cap,rfl,hx1,hx2⟩:=id hs
 clear hx1 hx2
 have HS:Hid (SrcE natV w I (.slice ao ws.length cap) ws):=hs
 have HST:Hid (St w p s bs c):=hst
 have HP:Hid (∀k,Fp p s k→k<w.heap.size):=hid (fun k h=>hst.fp_lt h)
 have HWS:Hid (∀n∈ws,n≤32):=hws
 have HI:Hid (∀k,I k→k≠p):=hI
 have HB:Hid (∀b∈bs,b<256):=hst.byte
 clear hs hst hws hI
 go_enter Tryz.func176,Tryz.ntmps176
 go_wp2_with fail
 go_loopg [6,8,9,10,13] ws.length (fun q zo _ _ _ zi wr=>∃(i:Nat),ws.length-i≤q∧i≤ws.length∧zi=.int .i64 (i:Nat)∧Hid (c+(ws.take i).sum≤8*bs.length)∧Hid (NRow w.heap.size wr zo (numsAt (ofBytes bs) c (ws.take i)))∧Hid (St wr p s bs (c+(ws.take i).sum))∧Hid (Kept (·=p) w wr))
 case atStart=>exact⟨0,by omega,by omega,rfl,hid (by simpa using hc),hid (by simpa[numsAt]using RowE.nil),hid (by simpa using HST.out),Kept.refl _ _⟩
 case round=>
  clear HST
  obtain⟨i,hq,hi,rfl,HC,HV,HST,HK⟩:=hrel
  have hsz:=HK.out.size
  by_cases hlt:i<ws.length
  ·obtain⟨b,o,cap',e,hIb,_,cx⟩:=(HS.out.kept HK.out (fun k h _=>HI.out k h)).get i hlt
   simp only[Value.slice.injEq]at e
   obtain⟨rfl,hxe,rfl⟩:=e
   clear hxe hIb
   obtain⟨n,hn⟩:∃n,n=ws[i]:=⟨_,rfl⟩
   rw[←hn]at cx
   unfold natV at cx
   have hn32:n≤32:=by rw[hn];exact HWS.out _ (List.getElem_mem _)
   obtain⟨ci,hci⟩:∃ci,ci=c+(ws.take i).sum:=⟨_,rfl⟩
   rw[←hci]at HC HST
   have hci0:c≤ci:=by omega
   have HSUM:Hid (c+(ws.take (i+1)).sum=ci+n):=hid (by rw[List.take_succ_eq_append_getElem hlt,List.sum_append,hci,hn];simp;omega)
   have HTOT:Hid (ci+n≤c+ws.sum):=hid (by have:=sum_take_le ws i hlt;rw[hci,hn];omega)
   have HNUM:Hid (numsAt (ofBytes bs) c (ws.take (i+1))=numsAt (ofBytes bs) c (ws.take i)++[numAt (ofBytes bs) ci n]):=hid (by rw[List.take_succ_eq_append_getElem hlt,numsAt_snoc,hci,hn])
   have hnl:(numsAt (ofBytes bs) c (ws.take i)).length≤1000:=by rw[numsAt_length];simp;omega
   clear hn hci
   by_cases hfit:ci+n≤8*bs.length
   ·have HT:=take_good p ci n s bs wr HST.out (by omega) hn32 hfit
    rw[num_bits bs HB.out ci n hfit]at HT
    obtain⟨x,hx⟩:∃x,x=numAt (ofBytes bs) ci n:=⟨_,rfl⟩
    have hxl:x<2 ^ 32:=by
     rw[hx]
     exact Nat.lt_of_lt_of_le (numAt_lt _ (ofBytes_lt bs) _ _) (Nat.pow_le_pow_right (by decide) hn32)
    rw[←hx]at HT HNUM
    have hxw:wrap64 (x:Int)=(x:Int):=by unfold wrap64;omega
    have HF:Hid (ci+n≤8*bs.length):=hfit
    clear hx hfit
    go_wp2_with fail
    refine HT.mono ?_
    rintro e w2 ⟨rfl,hs2,hk2⟩
    have HST2:Hid (St w2 p s bs (ci+n)):=hs2
    have HK2:Hid (Kept (·=p) w w2):=hid (Kept.trans HK.out hk2 (fun _ _ h=>h) (fun _ _ h=>h))
    have HV2:Hid (NRow w.heap.size w2 u6 (numsAt (ofBytes bs) c (ws.take i))):=hid (HV.out.kept hk2 (fun k e h=>by have h1:=HV.out.ge e;have h2:=HP.out p (.inl rfl);omega))
    have hsz2:=HK2.out.size
    clear hs2 hk2 HT
    go_wp2_with (at_builtin;refine wpList_append_e _ natV natV_one w.heap.size 45 3 (natV 0) 8 Tryz.underlying45 Tryz.infoN rfl (by decide) rfl (.tmp 26) (.tmp 29) rfl u6 _ rfl (World.ownsRow.alloc HV2.out _) ⟨w2.heap.size,0,none⟩ 1 1 [x] rfl rfl (cellsAt_new _ _ _) (by simp;omega) (by simp;omega) ?_;intro v5 w5 hr5 hg5;have HV5:Hid (NRow w.heap.size w5 v5 (numsAt (ofBytes bs) c (ws.take (i+1)))):=hid (by rw[HNUM.out];exact hr5);have HK5':Hid (Kept (fun k=>u6.ownBlock=some k) w2 w5):=hid (((Kept.refl _ w2).alloc _).grown hg5 (fun _ e=>.inl e));have HST5:Hid (St w5 p s bs (c+(ws.take (i+1)).sum)):=hid (by rw[HSUM.out];exact HST2.out.kept HK5'.out (fun k h e=>by have h1:=HV2.out.ge e;have h2:=HP.out k h;omega));have HK5:Hid (Kept (·=p) w w5):=hid (Kept.trans HK2.out HK5'.out (fun _ _ h=>h) (fun k hk e=>by have:=HV2.out.ge e;omega));clear hr5 hg5)
    go_roundg (gk-1)
    case measure=>omega
    case rel=>exact⟨i+1,by omega,by omega,by go_num,hid (by rw[HSUM.out];exact HF.out),HV5,HST5,HK5⟩
   ·have HT:=take_end p ci n s bs wr HST.out HC.out (by omega) hn32 (by omega)
    have HE:Hid (8*bs.length<c+ws.sum):=hid (by have:=HTOT.out;omega)
    clear hfit
    go_wp2_with fail
    refine HT.mono ?_
    rintro e w2 ⟨rfl,m,hw2⟩
    subst hw2
    clear HT
    go_wp2_with fail
    go_ret2
    exact⟨.inr ⟨HE.out,rfl,ci,hci0,HC.out,HST.out.drewN _⟩,HK.out.drewN _⟩
  ·have hil:i=ws.length:=by omega
   subst hil
   have e1:ws.take ws.length=ws:=List.take_of_length_le (Nat.le_refl _)
   have HC2:Hid (c+ws.sum≤8*bs.length):=hid (by have h:=HC.out;rw[e1]at h;exact h)
   have HV2:Hid (NRow w.heap.size wr u6 (numsAt (ofBytes bs) c ws)):=hid (by have h:=HV.out;rw[e1]at h;exact h)
   have HST2:Hid (St wr p s bs (c+ws.sum)):=hid (by have h:=HST.out;rw[e1]at h;exact h)
   clear HC HV HST e1
   go_wp2_with fail
   go_ret2
   exact⟨.inl ⟨HC2.out,⟨_,rfl,HV2.out⟩,HST2.out⟩,HK.out⟩

theorem rest_lt2(bs:List Nat)(hb:∀b∈bs,b<256)(c:Nat)(hc:c≤8*bs.length):n256 bs / 2 ^ c<2 ^ (8*bs.length-c):=by
 have h:=n256_lt bs hb
 rw[pow8]at h
 refine(Nat.div_lt_iff_lt_mul (Nat.two_pow_pos c)).2 ?_
 rw[←Nat.pow_add,show 8*bs.length-c+c=8*bs.length by omega]
 exact h

theorem lnext_any(w:World)(d:Nat)(vc vs:Value)(zs:List Int)(ns:List Nat)(p c:Nat)(s:Value)(bs:List Nat)(hg:Good zs ns)(hd:Dec w d vc vs ns)(hs:St w p s bs c)(hc:c≤8*bs.length)(hlen:bs.length≤100000000)(hdis:∀k,DF d vc vs k→¬Fp p s k):
  Calls Tryz.prog 145 #[.pointer (some ⟨d,0,none⟩),.pointer (some ⟨p,0,none⟩)] w fun e w'=>e=.returned (.tuple #[.int .i64 ((nextF ns ((ofBytes bs).drop c)).1:Nat),.int .i64 ((nextF ns ((ofBytes bs).drop c)).2.2:Nat)])∧St w' p s bs (c+(nextF ns ((ofBytes bs).drop c)).2.1)∧c+(nextF ns ((ofBytes bs).drop c)).2.1≤8*bs.length∧Kept (·=p) w w':=by
 refine(next_any w d vc vs ns p c s bs hd (mx_le ns 15 hg.le) hg.max hs hc hlen hdis).mono ?_
 rintro e w' ⟨⟨sym,long,er,rfl,hans,hst⟩,hk⟩
 have hr:=nextF_is ns ((ofBytes bs).drop c)
 obtain⟨h1,h2,h3⟩:=next_same hg bs hs.byte c hc (rest_lt2 bs hs.byte c hc) hans hr
 rw[h1,h2,h3]
 refine⟨rfl,hst,?_,hk⟩
 rcases hans with⟨_,_,_,h,_⟩ | ⟨_,_,h,_,_⟩ | ⟨_,_,h,_,_⟩
 ·omega
 ·omega
 ·omega

def RStepA(w':World)(p:Nat)(s:Value)(bs:List Nat)(c:Nat)(e:Ending):Except Nat ((Nat×Nat)×Nat)→Prop
 | .error er=>e=.returned (.tuple #[.agg #[.int .i64 0,.int .i64 0],.int .i64 (er:Nat)])∧er≠0∧∃c',c≤c'∧c'≤8*bs.length∧St w' p s bs c'
 | .ok (x,c')=>e=.returned (.tuple #[.agg #[.int .i64 (x.1:Nat),.int .i64 (x.2:Nat)],.int .i64 0])∧c'≤8*bs.length∧St w' p s bs c'

end Go.Proofs.YtggcbnhckcenmaaGreatDoor
