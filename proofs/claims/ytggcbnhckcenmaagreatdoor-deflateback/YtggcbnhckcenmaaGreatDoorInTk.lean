import Derived.Test.YtggcbnhckcenmaaGreatDoorInM
import Derived.Test.YtggcbnhckcenmaaGreatDoorBlk
import Derived.Test.YtggcbnhckcenmaaGreatDoorHNextW
import Derived.Test.YtggcbnhckcenmaaGreatDoorOf
namespace Go.Proofs.YtggcbnhckcenmaaGreatDoor
open Go.RowKit

abbrev RdB(w:World)(h:Nat)(v:Value)(c:Nat)(vo:Value)(most e:Nat):Prop:=Blk w h #[v,.int .i64 (c:Nat),vo,.int .i64 (most:Nat),.int .i64 (e:Nat)] 87

set_option maxRecDepth 100000 in
set_option maxHeartbeats 2000000 in
theorem itake_any(w:World)(h:Nat)(v:Value)(I:Nat→Prop)(ls:List Nat)(c:Nat)(vo:Value)(out:List Nat)(most e n:Nat)(hH:RdB w h v c vo most e)(hs:Src w I v ls)(hb:∀b∈ls,b<2)(hn:n≤32)(hc:c≤ls.length)(hlen:ls.length≤1000000000):
  Calls Tryz.prog 99 #[.pointer (some ⟨h,0,none⟩),.int .i64 (n:Nat)] w fun r w'=>r=.returned (.int .i64 ((tk ls ⟨c,out,e⟩ n).1:Nat))∧RdB w' h v (tk ls ⟨c,out,e⟩ n).2.c vo most (tk ls ⟨c,out,e⟩ n).2.e∧Kept (·=h) w w':=by
 obtain⟨ao,cap,rfl,hsa⟩:=id hs
 have c0:=hH.cell 0
 have c1:=hH.cell 1
 have c4:=hH.cell 4
 have f1:=hH.frozen 1
 have f4:=hH.frozen 4
 simp at c0 c1 c4
 have HH:Hid (RdB w h (.slice ao ls.length cap) c vo most e):=hH
 have HS:Hid (Src w I (.slice ao ls.length cap) ls):=hs
 have HB:Hid (∀b∈ls,b<2):=hb
 obtain⟨M,hM⟩:∃M,M=ls.length:=⟨_,rfl⟩
 rw[←hM]at c0 HH HS hc hlen
 have HM:Hid (M=ls.length):=hM
 clear hs hsa hb hH
 by_cases he:e=0
 ·subst he
  obtain⟨d,hd⟩:∃d,d=M-c:=⟨_,rfl⟩
  have hdI:(M:Int)-(c:Int)=(d:Int):=by omega
  have hwd:IntKind.i64.wrap (d:Int)=(d:Int):=by rw[IntKind.wrap_i64];omega
  by_cases hdn:d<n
  ·have HE:Hid (tk ls ⟨c,out,0⟩ n=(0,⟨c,out,55⟩)):=hid (by unfold tk;rw[if_neg (by simp),if_pos (by simp only;omega)])
   clear hd hM
   go_enter Tryz.func99,Tryz.ntmps99
   go_wp2_with fail
   go_quiet (fail)
   go_wp2_with fail
   go_ret
   rw[HE.out]
   refine⟨rfl,?_,((Kept.refl (·=h) w).drewN _).setCell ⟨h,4,none⟩ _ (.inl rfl)⟩
   have hb:=(HH.out.drewN nq).set 4 (.int .i64 55)
   rw[HM.out]at hb
   simp at hb
   exact hb
  ·have hdd:decide (d<n)=false:=by simp;omega
   have hfit:c+n≤M:=by omega
   obtain⟨x,hx⟩:∃x,x=numAt ls c n:=⟨_,rfl⟩
   have HE:Hid (tk ls ⟨c,out,0⟩ n=(x,⟨c+n,out,0⟩)):=hid (by unfold tk;rw[if_neg (by simp),if_neg (by simp only;omega),hx])
   have HNB:∀wx:World,Src wx I (.slice ao M cap) ls→Calls Tryz.prog 133 #[.slice ao M cap,.int .i64 (c:Nat),.int .i64 (n:Nat)] wx fun e w'=>e=.returned (.int .u32 (x:Nat))∧w'=wx:=by
    intro wx hsx
    have h1:=refNumber_any wx _ I ls hsx HB.out c n hn (by omega) (by omega)
    rw[←n2_part ls HB.out c n (by omega)]at h1
    have e1:n2 ((ls.drop c).take n)=x:=hx.symm
    rw[e1]at h1
    exact h1
   have hx32:x<4294967296:=by
    rw[hx]
    exact Nat.lt_of_lt_of_le (numAt_lt ls HB.out c n) (Nat.le_trans (Nat.pow_le_pow_right (by omega) hn) (by decide))
   obtain⟨cn,hcn⟩:∃cn,cn=c+n:=⟨_,rfl⟩
   have hcnI:(c:Int)+(n:Int)=(cn:Int):=by omega
   have HCN:Hid (cn=c+n):=hcn
   have hcnle:cn≤1000000000:=by omega
   clear hd hM hx hcn hdn hfit
   go_enter Tryz.func99,Tryz.ntmps99
   go_wp2_with fail
   go_quiet (fail)
   go_wp2_with fail
   have HS1:Hid (Src (w.drewN nq) I (.slice ao M cap) ls):=hid (HS.out.kept ((Kept.refl (fun _=>False) w).drewN nq) (fun _ _ _ f=>f))
   have HH1:Hid (RdB (w.drewN nq) h (.slice ao M cap) c vo most 0):=hid (HH.out.drewN nq)
   have HK1:Hid (Kept (·=h) w (w.drewN nq)):=hid ((Kept.refl (·=h) w).drewN nq)
   generalize w.drewN nq=w1 at *
   have c0:=HH1.out.cell 0
   have c1:=HH1.out.cell 1
   have f1:=HH1.out.frozen 1
   simp at c0 c1
   have HN1:=fun q=>HNB (w1.drewN q) (HS1.out.kept ((Kept.refl (fun _=>False) w1).drewN q) (fun _ _ _ f=>f))
   go_quiet ((go_at_call 133;exact Calls.quiet_of_same (HN1 _)))
   go_wp2_with fail
   go_ret
   rw[HE.out]
   simp only
   rw[←HCN.out]
   refine⟨rfl,?_,(HK1.out.drewN _).setCell ⟨h,1,none⟩ _ (.inl rfl)⟩
   have hb:=(HH1.out.drewN nq).set 1 (.int .i64 (cn:Nat))
   rw[HM.out]at hb
   simp at hb
   exact hb
 ·have HE:Hid (tk ls ⟨c,out,e⟩ n=(0,⟨c,out,e⟩)):=hid (by unfold tk;rw[if_pos he])
  have hed:((e:Int) != 0)=true:=by simp;omega
  clear he hM
  go_enter Tryz.func99,Tryz.ntmps99
  go_wp2_with fail
  go_ret
  rw[HE.out]
  refine⟨rfl,?_,Kept.refl (·=h) w⟩
  have hb:=HH.out
  rw[HM.out]at hb
  exact hb

structure RS(w:World)(I G:Nat→Prop)(h:Nat)(v:Value)(ls:List Nat)(most:Nat)(s:S5)(c:Nat)(vo:Value):Prop where
 blk:RdB w h v c vo most s.e
 row:Row w vo s.out
 ne:vo.ownBlock≠some h
 gh:¬G h
 go:∀k,vo.ownBlock=some k→¬G k
 lt:∀k,G k→k<w.heap.size
 src:Src w I v ls
 ig:∀k,I k→G k
 pl:s.e=0→c=s.c
 le:c≤ls.length
 ol:s.out.length≤most
 by':∀b∈s.out,b<256

structure Sz(ls:List Nat)(most:Nat):Prop where
 bit:∀b∈ls,b<2
 len:ls.length≤1000000
 mo:most≤1000000

abbrev RX(w:World)(I G:Nat→Prop)(h:Nat)(v:Value)(ls:List Nat)(most:Nat)(s:S5):Prop:=∃c vo,RS w I G h v ls most s c vo

abbrev KG(G:Nat→Prop)(w w':World):Prop:=Kept (fun k=>¬G k) w w'

theorem KG.trans{G:Nat→Prop}{a b c:World}(h:KG G a b)(k:KG G b c):KG G a c:=Kept.trans h k (fun _ _ x=>x) (fun _ _ x=>x)
theorem KG.same{G:Nat→Prop}{a b:World}(h:Same a b):KG G a b:=h.mono (fun _ _ e=>e.elim)
theorem KG.less{G G':Nat→Prop}{a b:World}(h:KG G' a b)(hg:∀k,G k→G' k):KG G a b:=h.mono (fun x _ e g=>e (hg x g))

theorem RS.drewN{w:World}{I G:Nat→Prop}{h:Nat}{v:Value}{ls:List Nat}{most:Nat}{s:S5}{c:Nat}{vo:Value}(r:RS w I G h v ls most s c vo)(n:Nat):RS (w.drewN n) I G h v ls most s c vo:=
 ⟨r.blk,r.row,r.ne,r.gh,r.go,r.lt,r.src,r.ig,r.pl,r.le,r.ol,r.by'⟩

theorem RS.same{w w':World}{I G:Nat→Prop}{h:Nat}{v:Value}{ls:List Nat}{most:Nat}{s:S5}{c:Nat}{vo:Value}(r:RS w I G h v ls most s c vo)(hk:Same w w'):RS w' I G h v ls most s c vo:=
 ⟨r.blk.kept hk (fun f=>f),r.row.kept hk (fun _ _ f=>f),r.ne,r.gh,r.go,fun k g=>Nat.lt_of_lt_of_le (r.lt k g) hk.size,r.src.kept hk (fun _ _ _ f=>f),r.ig,r.pl,r.le,r.ol,r.by'⟩

theorem RS.turn{w w':World}{I G:Nat→Prop}{h:Nat}{v:Value}{ls:List Nat}{most:Nat}{s:S5}{c:Nat}{vo:Value}(r:RS w I G h v ls most s c vo)(hk:Kept (·=h) w w'){c' e' cs:Nat}(hb:RdB w' h v c' vo most e')(hp:e'=0→c'=cs)(hl:c'≤ls.length):RS w' I G h v ls most ⟨cs,s.out,e'⟩ c' vo:=
 ⟨hb,r.row.kept hk (fun k e e2=>r.ne (by rw[e,e2])),r.ne,r.gh,r.go,fun k g=>Nat.lt_of_lt_of_le (r.lt k g) hk.size,r.src.kept hk (fun k hi _ e=>by subst e;exact r.gh (r.ig _ hi)),r.ig,hp,hl,r.ol,r.by'⟩

theorem RS.kg{w w':World}{I G:Nat→Prop}{h:Nat}{v:Value}{ls:List Nat}{most:Nat}{s:S5}{c:Nat}{vo:Value}(r:RS w I G h v ls most s c vo)(hk:Kept (·=h) w w'):KG G w w':=hk.mono (fun x _ e g=>by subst e;exact r.gh g)

def RS.all(w:World)(h:Nat)(vo:Value)(k:Nat):Prop:=k<w.heap.size∧k≠h∧vo.ownBlock≠some k
theorem RS.more{w:World}{I G:Nat→Prop}{h:Nat}{v:Value}{ls:List Nat}{most:Nat}{s:S5}{c:Nat}{vo:Value}(r:RS w I G h v ls most s c vo):RS w I (RS.all w h vo) h v ls most s c vo:=
 ⟨r.blk,r.row,r.ne,fun g=>g.2.1 rfl,fun k e g=>g.2.2 e,fun k g=>g.1,r.src,fun k i=>⟨r.lt k (r.ig k i),fun e=>by subst e;exact r.gh (r.ig _ i),fun e=>r.go k e (r.ig k i)⟩,r.pl,r.le,r.ol,r.by'⟩
theorem RS.all_of{w:World}{I G:Nat→Prop}{h:Nat}{v:Value}{ls:List Nat}{most:Nat}{s:S5}{c:Nat}{vo:Value}(r:RS w I G h v ls most s c vo)(k:Nat)(g:G k):RS.all w h vo k:=⟨r.lt k g,fun e=>by subst e;exact r.gh g,fun e=>r.go k e g⟩
theorem RS.weak{w:World}{I G G':Nat→Prop}{h:Nat}{v:Value}{ls:List Nat}{most:Nat}{s:S5}{c:Nat}{vo:Value}(r:RS w I G' h v ls most s c vo)(hg:∀k,G k→G' k)(hi:∀k,I k→G k):RS w I G h v ls most s c vo:=
 ⟨r.blk,r.row,r.ne,fun g=>r.gh (hg h g),fun k e g=>r.go k e (hg k g),fun k g=>r.lt k (hg k g),r.src,hi,r.pl,r.le,r.ol,r.by'⟩

theorem tk_le(ls:List Nat)(s:S5)(n:Nat)(h:s.c≤ls.length):(tk ls s n).2.c≤ls.length:=by
 unfold tk
 split
 ·exact h
 ·split
  ·exact h
  ·simp only;omega

theorem tk_stuck{ls:List Nat}{s:S5}{n:Nat}(h:s.e≠0):tk ls s n=(0,s):=by unfold tk;rw[if_pos h]
theorem tk_ok{ls:List Nat}{s:S5}{n:Nat}(he:s.e=0)(h:s.c+n≤ls.length):tk ls s n=(numAt ls s.c n,{s with c:=s.c+n}):=by
 unfold tk;rw[if_neg (by simp[he]),if_neg (by omega)]
theorem tk_end{ls:List Nat}{s:S5}{n:Nat}(he:s.e=0)(h:ls.length<s.c+n):tk ls s n=(0,{s with e:=55}):=by
 unfold tk;rw[if_neg (by simp[he]),if_pos h]
theorem tk_lt(ls:List Nat)(hb:∀b∈ls,b<2)(s:S5)(n:Nat):(tk ls s n).1<2 ^ n:=by
 have h0:=Nat.two_pow_pos n
 unfold tk
 split
 ·exact h0
 ·split
  ·exact h0
  ·exact numAt_lt ls hb s.c n

theorem take5(w:World)(I G:Nat→Prop)(h:Nat)(v:Value)(ls:List Nat)(most:Nat)(s:S5)(n:Nat)(hz:Sz ls most)(hn:n≤32)(hr:RX w I G h v ls most s):
  Calls Tryz.prog 99 #[.pointer (some ⟨h,0,none⟩),.int .i64 (n:Nat)] w fun r w'=>r=.returned (.int .i64 ((tk ls s n).1:Nat))∧RX w' I G h v ls most (tk ls s n).2∧KG G w w':=by
 obtain⟨c,vo,r⟩:=hr
 refine(itake_any w h v I ls c vo s.out most s.e n r.blk r.src hz.bit hn r.le (by have:=hz.len;omega)).mono ?_
 rintro x w' ⟨rfl,hb,hk⟩
 obtain⟨sc,so,se⟩:=s
 by_cases he:se=0
 ·subst he
  have hc:c=sc:=r.pl rfl
  subst hc
  have hl:=tk_le ls ⟨c,so,0⟩ n r.le
  by_cases hf:ls.length<c+n
  ·rw[tk_end rfl hf]at hb hl ⊢
   exact⟨rfl,⟨_,_,r.turn hk hb (fun _=>rfl) hl⟩,r.kg hk⟩
  ·rw[tk_ok rfl (by simp only;omega)]at hb hl ⊢
   exact⟨rfl,⟨_,_,r.turn hk hb (fun _=>rfl) hl⟩,r.kg hk⟩
 ·rw[tk_stuck he]at hb ⊢
  rw[tk_stuck he]
  exact⟨rfl,⟨_,_,r.turn hk hb (fun e=>absurd e he) r.le⟩,r.kg hk⟩

set_option maxHeartbeats 2000000 in
theorem lay5(w:World)(I G:Nat→Prop)(h:Nat)(v:Value)(ls:List Nat)(most:Nat)(s:S5)(b:Nat)(hz:Sz ls most)(hb:b<256)(hr:RX w I G h v ls most s):
  Calls Tryz.prog 134 #[.pointer (some ⟨h,0,none⟩),.int .u8 (b:Nat)] w fun r w'=>(∃u,r=.returned u)∧RX w' I G h v ls most (ly most s b)∧KG G w w':=by
 obtain⟨c,vo,r⟩:=hr
 obtain⟨sc,so,e⟩:=s
 have HH:Hid (RS w I G h v ls most ⟨sc,so,e⟩ c vo):=r
 have HZ:Hid (Sz ls most):=hz
 obtain⟨ao,cap,hvo,_⟩:=r.row.shape
 simp only at hvo
 subst hvo
 have c2:=r.blk.cell 2
 have c3:=r.blk.cell 3
 have c4:=r.blk.cell 4
 have f2:=r.blk.frozen 2
 have f4:=r.blk.frozen 4
 simp at c2 c3 c4
 obtain⟨M,hM⟩:∃M,M=so.length:=⟨_,rfl⟩
 have HM:Hid (M=so.length):=hM
 have hol:=r.ol
 have hmo:=hz.mo
 simp only at hol
 rw[←hM]at c2 hol HH
 clear r hM hz
 by_cases he:e=0
 ·subst he
  by_cases hf:most≤M
  ·have HE:Hid (ly most ⟨sc,so,0⟩ b=⟨sc,so,56⟩):=hid (by unfold ly;rw[if_neg (by simp),if_pos (by have:=HM.out;simp only;omega)])
   go_enter Tryz.func134,Tryz.ntmps134
   go_wp2_with fail
   go_quiet (fail)
   go_wp2_with fail
   refine bodyPost_ret (results_none rfl _ _ _) rfl ?_
   have hk:Kept (·=h) w ((w.drewN nq).setCell ⟨h,4,none⟩ (.int .i64 56)):=((Kept.refl (·=h) w).drewN nq).setCell ⟨h,4,none⟩ _ (.inl rfl)
   have hb:=(HH.out.blk.drewN nq).set 4 (.int .i64 56)
   simp at hb
   rw[HE.out]
   exact⟨⟨_,rfl⟩,⟨c,_,HH.out.turn (e':=56) hk hb (fun e=>by cases e) HH.out.le⟩,HH.out.kg hk⟩
  ·have hfd:decide (most≤M)=false:=by simp;omega
   have HE:Hid (ly most ⟨sc,so,0⟩ b=⟨sc,so++[b],0⟩):=hid (by unfold ly;rw[if_neg (by simp),if_neg (by have:=HM.out;simp only;omega)])
   have HB:Hid (b<256):=hb
   have HF:Hid (M<most):=hid (by omega)
   clear hf
   go_enter Tryz.func134,Tryz.ntmps134
   go_wp2_with fail
   go_quiet (fail)
   have HH1:Hid (RS (w.drewN nq) I G h v ls most ⟨sc,so,0⟩ c (.slice ao M cap)):=hid (HH.out.drewN nq)
   have HK1:Hid (KG G w (w.drewN nq)):=hid ((Kept.refl _ w).drewN nq)
   clear HH c2 c3 c4 f2 f4
   generalize w.drewN nq=w1 at *
   have c2:=HH1.out.blk.cell 2
   have f2:=HH1.out.blk.frozen 2
   have hlt1:=HH1.out.blk.lt
   simp at c2
   have hne:h≠w1.heap.size:=by omega
   have hrow1:Row (w1.alloc (.cells #[.int .u8 (b:Nat)] 5)) (.slice ao M cap) so:=HH1.out.row.kept ((Kept.refl (fun _=>False) w1).alloc _) (fun _ _ f=>f)
   have HR1:Hid (Row (w1.alloc (.cells #[.int .u8 (b:Nat)] 5)) (.slice ao M cap) so):=hrow1
   have HL:Hid (so.length+[b].length≤1000000000000):=hid (by have:=HM.out;have:=HZ.out.mo;have:=HF.out;simp;omega)
   clear hrow1
   go_wp2_with (at_builtin;refine wpList_append_row _ rfl (.tmp 26) (.tmp 28) rfl (.slice ao M cap) so rfl HR1.out ⟨w1.heap.size,0,none⟩ 1 1 [b] rfl rfl (bytesAt_new _ _) HL.out ?_)
   intro v2 w2 hr2 hg2 ho2
   have hnh:(Value.slice ao M cap).ownBlock≠some h:=HH1.out.ne
   have hkA:Kept (fun k=>(Value.slice ao M cap).ownBlock=some k) w1 w2:=((Kept.refl _ w1).alloc _).grown hg2 (fun k e=>.inl e)
   have HKA:Hid (Kept (fun k=>(Value.slice ao M cap).ownBlock=some k) w1 w2):=hkA
   have HR2:Hid (Row w2 v2 (so++[b])):=hr2
   have HO2:Hid (v2.ownBlock=(Value.slice ao M cap).ownBlock∨v2.ownBlock=some (w1.heap.size+1)):=ho2
   have HB2:Hid (RdB w2 h v c (.slice ao M cap) most 0):=hid (HH1.out.blk.kept hkA hnh)
   have g2:=HB2.out.frozen 2
   have d2:=HB2.out.cell 2
   simp at d2
   obtain⟨ao2,cap2,hv2,_⟩:=hr2.shape
   generalize (so++[b]).length=L2 at hv2
   subst hv2
   clear hr2 hg2 ho2 hkA hnh c2 f2
   go_wp2_with fail
   go_end0
   rw[HE.out]
   have hb3:=HB2.out.set 2 (.slice ao2 L2 cap2)
   simp at hb3
   have hv2:∀k,(Value.slice ao2 L2 cap2).ownBlock=some k→k≠h∧¬G k:=by
    intro k e
    rcases HO2.out with e2 | e2
    ·rw[e2]at e
     exact⟨fun e3=>HH1.out.ne (by rw[e,e3]),HH1.out.go k e⟩
    ·rw[e2]at e
     injection e with e
     exact⟨fun e3=>by omega,fun g=>by have:=HH1.out.lt k g;omega⟩
   have hkB:Kept (·=h) w2 (w2.setCell ⟨h,2,none⟩ (.slice ao2 L2 cap2)):=(Kept.refl (·=h) w2).setCell ⟨h,2,none⟩ _ (.inl rfl)
   have hkg:KG G w1 (w2.setCell ⟨h,2,none⟩ (.slice ao2 L2 cap2)):=Kept.trans HKA.out hkB (fun x _ e g=>HH1.out.go x e g) (fun x _ e g=>by subst e;exact HH1.out.gh g)
   refine⟨⟨_,rfl⟩,⟨c,_,hb3,HR2.out.kept hkB (fun k e e2=>(hv2 k e).1 e2),fun e=>(hv2 h e).1 rfl,HH1.out.gh,fun k e=>(hv2 k e).2,fun k g=>Nat.lt_of_lt_of_le (HH1.out.lt k g) hkg.size,HH1.out.src.kept hkg (fun k hi _ f=>f (HH1.out.ig k hi)),HH1.out.ig,HH1.out.pl,HH1.out.le,?_,?_⟩,HK1.out.trans hkg⟩
   ·have:=HM.out;have:=HF.out;simp;omega
   ·intro x hx
    rcases List.mem_append.1 hx with hx | hx
    ·exact HH1.out.by' x hx
    ·simp at hx;subst hx;exact HB.out
 ·have HE:Hid (ly most ⟨sc,so,e⟩ b=⟨sc,so,e⟩):=hid (by unfold ly;rw[if_pos he])
  have hed:((e:Int) != 0)=true:=by simp;omega
  clear he
  go_enter Tryz.func134,Tryz.ntmps134
  go_wp2_with fail
  refine bodyPost_ret (results_none rfl _ _ _) rfl ?_
  rw[HE.out]
  exact⟨⟨_,rfl⟩,⟨c,_,HH.out⟩,Kept.refl _ _⟩

end Go.Proofs.YtggcbnhckcenmaaGreatDoor
