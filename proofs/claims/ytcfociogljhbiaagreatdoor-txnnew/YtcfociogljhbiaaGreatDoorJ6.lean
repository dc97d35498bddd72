/-
  Of the proof: parts VaE.
-/
import Derived.Shelf.Abstract
import Derived.Test.YtcfociogljhbiaaGreatDoorJ5

namespace Go.Proofs.YtcfociogljhbiaaGreatDoor
open Go.RowKit Go.Maps Go.Sort Go.Shelf

def ixL{α:Type}(p:α→Bool)(l:List α):Int:=match l.findIdx? p with | some i=>(i:Int) | none=>-1

theorem ixL_hit{α:Type}(p:α→Bool)(l:List α)(i:Nat)(hi:i<l.length)(h:p l[i]=true)(hb:∀j (hj:j<i),p (l[j]'(by omega))=false):ixL p l=(i:Int):=by
 have h1:l.findIdx? p=some i:=List.findIdx?_eq_some_iff_getElem.2 ⟨hi,h,fun j hj=>by rw[hb j hj];decide⟩
 unfold ixL
 rw[h1]

theorem ixL_none{α:Type}(p:α→Bool)(l:List α)(hb:∀j (hj:j<l.length),p l[j]=false):ixL p l=-1:=by
 have h1:l.findIdx? p=none:=List.findIdx?_eq_none_iff.2 (fun x hx=>by
  obtain⟨j,hj,rfl⟩:=List.mem_iff_getElem.1 hx
  exact hb j hj)
 unfold ixL
 rw[h1]

theorem ixL_any{α:Type}(p:α→Bool)(l:List α):decide (0≤ixL p l)=l.any p:=by
 unfold ixL
 cases h:l.findIdx? p with
 | none=>
  have h1:=List.findIdx?_eq_none_iff.1 h
  have:l.any p=false:=by rw[List.any_eq_false];intro x hx;rw[h1 x hx];decide
  rw[this]
  decide
 | some i=>
  obtain⟨hi,h1,_⟩:=List.findIdx?_eq_some_iff_getElem.1 h
  have:l.any p=true:=List.any_eq_true.2 ⟨_,List.getElem_mem hi,h1⟩
  rw[this]
  simp

set_option maxRecDepth 100000 in
set_option maxHeartbeats 1000000 in
theorem indexW_any(w:World)(v:Value)(ws:List Wr)(I:Nat→Prop)(f g:Nat)(p:Wr→Bool)(hs:SrcC 5 wrE w I v ws)(hn:ws.length≤9223372036854775807)(hmf:∀args w,(callFunc f args).run Tryz.prog w=.ok (.enter f args) w)
  (hp:∀r wx,r∈ws→Same w wx→Calls Tryz.prog f #[.agg (wrE r).toArray,.pointer (some ⟨g,0,none⟩)] wx fun e w'=>e=.returned (.bool (p r))∧Same wx w'):
  Calls Tryz.prog 208 #[v,.func (.func f) #[] #[.pointer (some ⟨g,0,none⟩)]] w fun e w'=>e=.returned (.int .i64 (ixL p ws))∧Same w w':=by
 obtain⟨a,cap,rfl,hcap,hcel⟩:=hs
 obtain⟨len,hlen⟩:∃n,n=ws.length:=⟨_,rfl⟩
 rw[←hlen]at hn ⊢
 have HC:Hid (ws≠[]→∃b o,a=some ⟨b,o,none⟩∧I b∧∀j (_:j<ws.length) i (_:i<5),w.cell? ⟨b,o+(j*5+i),none⟩=(wrE ws[j])[i]?):=hcel
 have HP:Hid (∀r wx,r∈ws→Same w wx→Calls Tryz.prog f #[.agg (wrE r).toArray,.pointer (some ⟨g,0,none⟩)] wx fun e w'=>e=.returned (.bool (p r))∧Same wx w'):=hp
 have HL:Hid (len=ws.length∧len≤cap∧len≤9223372036854775807):=hid ⟨hlen,by rw[hlen];exact hcap,hn⟩
 clear hcel hp hlen hcap hn
 go_enter Tryz.func208,Tryz.ntmps208
 go_wp2_with fail
 go_loopg [8] len (fun k z wr=>∃i:Nat,len-i≤k∧i≤len∧z=.int .i64 (i:Nat)∧Hid (∀j (hj:j<i) (hj2:j<ws.length),p ws[j]=false)∧Hid (Same w wr))
 case atStart=>exact⟨0,by omega,by omega,rfl,hid (fun j hj _=>by omega),hid (Kept.refl _ _)⟩
 case round=>
  obtain⟨i,hk,hil,rfl,HF,HK⟩:=hrel
  by_cases hlt:i<len
  ·have hli:decide (i<len)=true:=by simp;omega
   have hlt2:i<ws.length:=by have:=HL.out.1;omega
   obtain⟨b,o,ha,_,hcc⟩:=HC.out (fun e=>by rw[e]at hlt2;simp at hlt2)
   subst ha
   have hcw:∀q u,q<5→(wrE ws[i])[q]? = some u→wr.cell? ⟨b,o+(i*5+q),none⟩=some u:=fun q u hq e=>HK.out.cell (by rw[hcc i hlt2 q hq,e]) (fun f=>f)
   obtain⟨r,hr⟩:∃r,r=ws[i]:=⟨_,rfl⟩
   rw[←hr]at hcw
   have k0:=hcw 0 (.string r.b.tn) (by decide) rfl
   have k1:=hcw 1 (.string r.b.ar) (by decide) rfl
   have k2:=hcw 2 (.string r.n.s) (by decide) rfl
   have k3:=hcw 3 (.bool r.there) (by decide) rfl
   have k4:=hcw 4 (.string r.data) (by decide) rfl
   have HC2:=HP.out r wr (by rw[hr];exact List.getElem_mem _) HK.out
   unfold wrE at HC2
   have hiw:IntKind.i64.wrap ((i:Int)+1)=((i+1:Nat):Int):=by have:=HL.out.2.2;rw[IntKind.wrap_i64];omega
   have HR:Hid (r=ws[i]):=hr
   clear hcc hcw hr
   rw[Nat.add_zero]at k0
   simp only[←Nat.add_assoc]at k1 k2 k3 k4
   cases hb:p r with
   | true=>
    rw[hb]at HC2
    have HB:Hid (p r=true):=hb
    clear hb
    go_wp2_with fail
    refine HC2.mono ?_
    rintro e w2 ⟨rfl,hk2⟩
    have HK2:Hid (Same w w2):=hid (Same.trans HK.out hk2)
    clear hk2 HC2
    go_wp2_with fail
    go_ret
    refine⟨?_,HK2.out⟩
    rw[ixL_hit p ws i hlt2 (by rw[←HR.out];exact HB.out) (fun j hj=>HF.out j hj (by omega))]
    rfl
   | false=>
    rw[hb]at HC2
    have HB:Hid (p r=false):=hb
    clear hb
    go_wp2_with fail
    refine HC2.mono ?_
    rintro e w2 ⟨rfl,hk2⟩
    have HK2:Hid (Same w w2):=hid (Same.trans HK.out hk2)
    clear hk2 HC2
    go_wp2_with fail
    go_roundg (gk-1)
    case measure=>omega
    case rel=>
     refine⟨i+1,by omega,by omega,by go_num,hid (fun j hj hj2=>?_),HK2⟩
     rcases Nat.lt_or_ge j i with h1 | h1
     ·exact HF.out j h1 hj2
     ·obtain rfl:j=i:=by omega
      rw[←HR.out]
      exact HB.out
  ·have hli:decide (i<len)=false:=by simp;omega
   obtain rfl:i=len:=by omega
   go_wp2_with fail
   go_ret
   refine⟨?_,HK.out⟩
   rw[ixL_none p ws (fun j hj=>HF.out j (by have:=HL.out.1;omega) hj)]
   rfl

set_option maxHeartbeats 1000000 in
theorem containsW_any(w:World)(v:Value)(ws:List Wr)(I:Nat→Prop)(f g:Nat)(p:Wr→Bool)(hs:SrcC 5 wrE w I v ws)(hn:ws.length≤9223372036854775807)(hmf:∀args w,(callFunc f args).run Tryz.prog w=.ok (.enter f args) w)
  (hp:∀r wx,r∈ws→Same w wx→Calls Tryz.prog f #[.agg (wrE r).toArray,.pointer (some ⟨g,0,none⟩)] wx fun e w'=>e=.returned (.bool (p r))∧Same wx w'):
  Calls Tryz.prog 163 #[v,.func (.func f) #[] #[.pointer (some ⟨g,0,none⟩)]] w fun e w'=>e=.returned (.bool (ws.any p))∧Same w w':=by
 have H:=indexW_any w v ws I f g p hs hn hmf hp
 obtain⟨a,cap,rfl,_,_⟩:=hs
 obtain⟨len,hlen⟩:∃n,n=ws.length:=⟨_,rfl⟩
 rw[←hlen]at H ⊢
 have HZ:=ixL_any p ws
 obtain⟨z,hz⟩:∃z,z=ixL p ws:=⟨_,rfl⟩
 rw[←hz]at H HZ
 have HZ:Hid (decide (0≤z)=ws.any p):=HZ
 clear hz hp hmf hlen hn
 go_enter Tryz.func163,Tryz.ntmps163
 go_wp2_with fail
 refine H.mono ?_
 rintro e w2 ⟨rfl,hk⟩
 have HK:Hid (Same w w2):=hk
 clear hk H
 go_wp2_with fail
 go_ret
 exact⟨by rw[←HZ.out];rfl,HK.out⟩

section
variable {K:Nat} {w:World} {p mr ml ms:Nat} {s:Vst}

set_option maxHeartbeats 1000000 in
theorem vclo_any(h:Vk K w p mr ml ms s)(g:Nat)(hg:w.cell? ⟨g,0,none⟩=some (.pointer (some ⟨p,0,none⟩)))(r:Wr):Calls Tryz.prog 164 #[.agg (wrE r).toArray,.pointer (some ⟨g,0,none⟩)] w fun e w'=>e=.returned (.bool (sawS s (keO r)))∧Same w w':=by
 have HS:Hid (∀w',Same w w'→Calls Tryz.prog 165 #[.pointer (some ⟨p,0,none⟩),.agg #[.string r.b.tn,.string r.b.ar,.string r.n.s]] w' fun e w2=>e=.returned (.bool (sawS s (keO r)))∧Same w' w2):=hid (fun w' hk=>vsaw_any (h.same hk) (keO r))
 have hka:∀o,Same w (w.alloc o):=fun o=>(Kept.refl _ w).alloc o
 have HG:Hid (∀w',Same w w'→w'.cell? ⟨g,0,none⟩=some (.pointer (some ⟨p,0,none⟩))):=hid (fun w' hk=>hk.cell hg (fun f=>f))
 obtain⟨wA,hwA⟩:∃W,W=w.alloc (.cells #[.string r.b.tn,.string r.b.ar,.string r.n.s,.bool r.there,.string r.data] 65):=⟨_,rfl⟩
 obtain⟨xb,hxb⟩:∃x,x=w.heap.size:=⟨_,rfl⟩
 have BA:Blk wA xb #[.string r.b.tn,.string r.b.ar,.string r.n.s,.bool r.there,.string r.data] 65:=by rw[hwA,hxb];exact Blk.new w _ _
 have hk1:Same w wA:=by rw[hwA];exact hka _
 have HK:Hid (Same w wA):=hk1
 have g0:=HG.out wA hk1
 rw[hwA]at g0
 clear h hka BA hk1 hg
 unfold wrE
 go_enter Tryz.func164,Tryz.ntmps164
 go_wp2_with fail
 rw[←hwA]
 refine(HS.out wA HK.out).mono ?_
 rintro e w2 ⟨rfl,hk2⟩
 go_wp2_with fail
 go_ret
 exact⟨rfl,HK.out.trans hk2⟩

def claS(s:Vst)(t:Int)(ws:List Wr):Bool:=decide (s.t<t) && ws.any (fun r=>sawS s (keO r))

theorem Tryz.enters13c:∀args w,(callFunc 164 args).run Tryz.prog w=.ok (.enter 164 args) w:=enters_of Tryz.func164 (by kernel_rfl) rfl

set_option maxRecDepth 100000 in
set_option maxHeartbeats 1000000 in
theorem vclash_any(h:Vk K w p mr ml ms s)(t:Int)(v:Value)(ws:List Wr)(I:Nat→Prop)(hs:SrcC 5 wrE w I v ws)(hn:ws.length≤9223372036854775807):Calls Tryz.prog 142 #[.pointer (some ⟨p,0,none⟩),.agg #[.int .i64 t,v]] w fun e w'=>e=.returned (.bool (claS s t ws))∧Same w w':=by
 obtain⟨a,cap,rfl,hcap,hcel⟩:=id hs
 obtain⟨len,hlen⟩:∃n,n=ws.length:=⟨_,rfl⟩
 rw[←hlen]
 obtain⟨wA,hwA⟩:∃W,W=(w.alloc (.cells #[.pointer (some ⟨p,0,none⟩)] 111)).alloc (.cells #[.int .i64 t,.slice a len cap] 59):=⟨_,rfl⟩
 obtain⟨xb,hxb⟩:∃x,x=w.heap.size:=⟨_,rfl⟩
 have hka:Same w wA:=by rw[hwA];exact((Kept.refl _ w).alloc _).alloc _
 have B1:Blk wA xb #[.pointer (some ⟨p,0,none⟩)] 111:=by rw[hwA,hxb];exact(Blk.new w _ _).kept (F:=fun _=>False) ((Kept.refl _ _).alloc _) (fun f=>f)
 have B2:Blk wA (xb+1) #[.int .i64 t,.slice a len cap] 59:=by
  rw[hwA,hxb]
  have:=Blk.new (w.alloc (.cells #[.pointer (some ⟨p,0,none⟩)] 111)) #[.int .i64 t,.slice a len cap] 59
  rwa [World.size_alloc]at this
 obtain⟨at0,hat⟩:∃x,x=s.t:=⟨_,rfl⟩
 have p0:wA.cell? ⟨p,0,none⟩=some (.int .i64 at0):=by rw[hat];exact(h.same hka).blk.cell 0
 have b0:wA.cell? ⟨xb,0,none⟩=some (.pointer (some ⟨p,0,none⟩)):=B1.cell 0
 have c0:wA.cell? ⟨xb+1,0,none⟩=some (.int .i64 t):=B2.cell 0
 have c1:wA.cell? ⟨xb+1,1,none⟩=some (.slice a len cap):=B2.cell 1
 have HB0:=hid b0
 have HQ:Hid (∀w',Same wA w'→Calls Tryz.prog 163 #[.slice a len cap,.func (.func 164) #[] #[.pointer (some ⟨xb,0,none⟩)]] w' fun e w2=>e=.returned (.bool (ws.any (fun r=>sawS s (keO r))))∧Same w' w2):=hid (fun w' hk=>by
  rw[hlen]
  exact containsW_any w' _ ws I _ xb _ (hs.kept wrE_ok (hka.trans hk) (fun _ _ _ f=>f)) hn Tryz.enters13c (fun r wx _ hkx=>vclo_any (((h.same hka).same hk).same hkx) xb ((hk.trans hkx).cell HB0.out (fun f=>f)) r))
 have HK:Hid (Same w wA):=hka
 have HA:Hid (at0=s.t):=hat
 by_cases ht:t≤at0
 ·have hle:decide (t≤at0)=true:=decide_eq_true ht
  have HR:Hid (claS s t ws=false):=hid (by unfold claS;rw[←hat,decide_eq_false (by omega)];rfl)
  rw[HR.out]
  clear h hs hka B1 B2 hat ht hlen hcel hcap hn
  go_enter Tryz.func142,Tryz.ntmps142
  go_wp2_with fail
  rw[←hwA,←hxb]
  clear hwA hxb
  go_quiet (fail)
  all_goals go_wp2_with fail
  all_goals go_ret
  all_goals exact⟨rfl,HK.out.drewN _⟩
 ·have hle:decide (t≤at0)=false:=decide_eq_false ht
  have HR:Hid (claS s t ws=ws.any (fun r=>sawS s (keO r))):=hid (by unfold claS;rw[←hat,decide_eq_true (by omega)];rfl)
  rw[HR.out]
  clear h hs hka B1 B2 hat ht hlen hcel hcap hn
  go_enter Tryz.func142,Tryz.ntmps142
  go_wp2_with fail
  rw[←hwA,←hxb]
  clear hwA hxb
  go_quiet (fail)
  all_goals go_wp2_with fail
  all_goals refine(HQ.out _ ((Kept.refl _ _).drewN _)).mono ?_
  all_goals rintro e w2 ⟨rfl,hk2⟩
  all_goals go_wp2_with fail
  all_goals go_ret
  all_goals exact⟨rfl,HK.out.trans (Same.trans ((Kept.refl _ _).drewN _) hk2)⟩

end

end Go.Proofs.YtcfociogljhbiaaGreatDoor
