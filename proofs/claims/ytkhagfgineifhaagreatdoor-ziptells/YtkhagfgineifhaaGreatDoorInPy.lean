import Derived.Test.YtkhagfgineifhaaGreatDoorInPl
set_option maxHeartbeats 4000000
set_option maxRecDepth 100000
namespace Go.Proofs.YtkhagfgineifhaaGreatDoor
open Go.RowKit
abbrev Sm(w:World)(h:Nat)(most:Nat)(vl bv va:Value)(gone e:Nat):Prop:=Blk w h #[.int .i64 (most:Nat),vl,bv,va,.int .i64 (gone:Nat),.int .i64 (e:Nat)] 126
def Oi(w w':World)(h most:Nat)(vl bv va:Value)(gone e:Nat)(r:Ending):Except Nat (List Nat)->Prop
 | .error x=>r=.returned (.int .i64 (x:Nat))/\x≠0/\Same w w'
 | .ok out=>r=.returned (.int .i64 0)/\(∃vl',Sm w' h most vl' bv va gone e/\Row w' vl' out/\(vl'.ownBlock=vl.ownBlock\/∃k,vl'.ownBlock=some k/\w.heap.size<=k))/\Kept (λj=>j=h\/vl.ownBlock=some j) w w'
theorem iS{ops:Array Oper}{o:Oper}{a:Act}{w:World}{K:Act→World→Prop}{Q:Exit→Act→World→Prop}{E:Prop}(jS:o.guard=none)(s x:Operand)
  (ho:o.op=.call {callee:=.builtin .append,args:=#[s,x],argTypes:=#[25,25]})
  (v:Value) (bs:List Nat) (hs:a.eval s=v) (hrow:Row w v bs) (ad:Addr) (m c:Nat) (cs:List Nat) (hx:a.eval x=.slice (some ad) m c) (hm:cs.length=m) (eY:gg w ad cs) (ag:bs.length+cs.length<=1000000000000)
  (h:∀v' w',Row w' v' (bs++cs)->w.grownBy w' v.ownBlock->(v'.ownBlock=v.ownBlock\/v'.ownBlock=some w.heap.size)->Ol w w' v bs.length->K (a.put o.dst v') w'):if Region.wanted o (yielded ops a.tmps)=true then Oper.wp Tryz.prog o a w K Q else E:=by
 have hw:Region.wanted o (yielded ops a.tmps)=true:=by simp[Region.wanted,jS]
 rw[if_pos hw];subst hm;obtain⟨v',w',hr,h2,h3,h4,h5⟩:=pq w o.type v bs hrow ad c cs eY ag;unfold Oper.wp execOp;simp only[ho,resolve,invoke,builtin,Sem.run_bind,Sem.run_pure,Result.andThen_ok,List.map_toArray,List.map_cons,List.map_nil,hs,hx,hr];exact h v' w' h2 h3 h4 h5
def vj(R:Nat->Nat)(m n:Nat):List Nat:=(List.range n).map (λt=>R (t % m))
theorem x8(R:Nat->Nat)(m n:Nat):vj R m (n+1)=vj R m n++[R (n % m)]:=by simp[vj,List.range_succ]
theorem zG(R:Nat->Nat)(m n:Nat):(vj R m n).length=n:=by simp[vj]
theorem Mt(far n:Nat)(out:List Nat)(h1:1<=far)(h2:far<=out.length):nj far n out=out++vj (λt=>out.getD (out.length-far+t) 0) far n:=by
 induction n with
 | zero=>simp[nj,vj]
 | succ n ih=>rw[FE far n out h1 h2,ih,x8,List.append_assoc]
structure Rb(w wr:World)(h most:Nat)(v0 vi bv va:Value)(gone e:Nat)(out:List Nat)(R:Nat->Nat)(gr or m i:Nat):Prop where
 sm:Sm wr h most vi bv va gone e
 row:Row wr vi (out++vj R m i)
 own:vi.ownBlock=v0.ownBlock\/∃k,vi.ownBlock=some k/\w.heap.size<=k
 ne:vi.ownBlock≠some h
 kp:Kept (λj=>j=h\/v0.ownBlock=some j) w wr
 src:∀t,t<m->wr.cell? ⟨gr,or+t,none⟩=some (.int .u8 (R t:Nat))
 off:vi.ownBlock=some gr->∀t,t<m->or+t<out.length
theorem sZ(w:World)(h most:Nat)(vl bv va:Value)(gone e:Nat)(out:List Nat)(b:Nat)(hS:Sm w h most vl bv va gone e)(hR:Row w vl out)(bm:vl.ownBlock≠some h)(hm:most≤16384)(ho:out.length≤most):
  Calls Tryz.prog 137 #[.pointer (some ⟨h,0,none⟩),.agg #[.int .u8 (b:Nat),.int .i64 0,.int .i64 0]] w λr w'=>Oi w w' h most vl bv va gone e r (dB most out (.byte b)):=by
 obtain⟨ao,cap,rfl,_⟩:=hR.shape;obtain⟨W,hW⟩:∃W,W=w.alloc (.cells #[.int .u8 (b:Nat),.int .i64 0,.int .i64 0] 138):=⟨_,rfl⟩
 have hkW:Same w W:=by rw[hW];exact(Kept.refl _ w).alloc _
 obtain⟨V,hV⟩:∃V,V=W.alloc (.cells #[.int .u8 (b:Nat)] 5):=⟨_,rfl⟩
 have yT:Same W V:=by rw[hV];exact(Kept.refl _ W).alloc _
 have Ym:=hS.lt;have uW:∀k,(Value.slice ao out.length cap).ownBlock=some k->k<w.heap.size:=λk hk=>hR.lt hk
 have hSW:Sm W h most (.slice ao out.length cap) bv va gone e:=hS.kept hkW (λf=>f);have hSV:Sm V h most (.slice ao out.length cap) bv va gone e:=hSW.kept yT (λf=>f);have LQ:W.heap.size=w.heap.size+1:=by rw[hW];simp
 have w1:=hSW.cell 1;have v0:=hSV.cell 0;simp at w1 v0;have HSV:Hid (Sm V h most (.slice ao out.length cap) bv va gone e):=hSV;have HRV:Hid (Row V (.slice ao out.length cap) out):=hid ((hR.kept hkW (λ_ _ f=>f)).kept yT (λ_ _ f=>f));have HKV:Hid (Same w V):=hid (Same.trans hkW yT);have HNE:Hid ((Value.slice ao out.length cap).ownBlock≠some h):=bm;have HRL:Hid (∀k,(Value.slice ao out.length cap).ownBlock=some k->k<w.heap.size):=uW;have HOL:Hid (out.length<=16384):=hid (by omega);obtain⟨M,hM⟩:∃M,M=out.length:=⟨_,rfl⟩
 have HM:Hid (M=out.length):=hM;obtain⟨q,hq⟩:∃q,q=most-M:=⟨_,rfl⟩
 have XO:(most:Int)-(M:Int)=(q:Int):=by omega
 rw[<-hM]at w1 HSV HRV HNE HRL;have HVb:Hid (V.cell? ⟨w.heap.size+1,0,none⟩=some (.int .u8 (b:Nat))):=hid (by
  have:=(Blk.new W #[.int .u8 (b:Nat)] 5).cell 0;rw[<-hV,LQ]at this;simpa using this)
 clear hS hR bm uW hSW hSV hkW yT;by_cases hf:most<M+1
 ·have HE:Hid (dB most out (.byte b)=.error 56):=hid (by simp only[dB];rw[if_pos (by rw[<-hM];exact hf)]);have XT:q=0:=(by omega);subst XT;subst hV hW;clear hM hf hq;rw[<-HM.out];go_enter Tryz.func137,Tryz.ntmps137;go_wp2_with fail;go_ret;rw[HE.out];exact⟨rfl,by decide,HKV.out⟩
 ·have HE:Hid (dB most out (.byte b)=.ok (out++[b])):=hid (by simp only[dB];rw[if_neg (by rw[<-hM];exact hf)]);have T5:decide ((q:Int)<1)=false:=(by simp;omega);have v1:V.cell? ⟨h,1,none⟩=some (.slice ao M cap):=HSV.out.cell 1;have vb:V.cell? ⟨w.heap.size+1,0,none⟩=some (.int .u8 (b:Nat)):=HVb.out;have Jl:=HSV.out.lt;have va1:(V.drew.alloc (.cells #[.int .u8 (b:Nat)] 5)).cell? ⟨h,1,none⟩=some (.slice ao M cap):=(((Kept.refl (λ_=>False) V).drew).alloc _).cell v1 (λf=>f);have TY:(V.alloc (.cells #[.int .u8 (b:Nat)] 5)).cell? ⟨h,1,none⟩=some (.slice ao M cap):=((Kept.refl (λ_=>False) V).alloc _).cell v1 (λf=>f);have HBL:Hid (out.length+[b].length<=1000000000000):=hid (by have:=HOL.out;simp;omega);subst hV hW;clear hM hf hq;rw[<-HM.out];go_enter Tryz.func137,Tryz.ntmps137;go_wp2_with fail;refine wp_loop_rounds 2 ?_;rw[rounds_succ];go_wp2_with fail;go_region_law (refine iS rfl (.tmp 53) (.tmp 61) rfl (.slice ao M cap) out (by simp[Act.eval]) (HRV.out.kept (by first | exact(Kept.refl (λ_=>False) _).alloc _ | exact((Kept.refl (λ_=>False) _).drewN _).alloc _ | exact((Kept.refl (λ_=>False) _).drew).alloc _) (λ_ _ f=>f)) ⟨_,0,none⟩ 1 1 [b] (by simp[Act.eval]) rfl (iq _ _) HBL.out ?_;intro v5 w5 hr5 ef Pm CD;have HK5:Hid (Kept (λj=>(Value.slice ao M cap).ownBlock=some j) ((w.alloc (.cells #[.int .u8 (b:Nat),.int .i64 0,.int .i64 0] 138)).alloc (.cells #[.int .u8 (b:Nat)] 5)) w5):=hid (by first | exact((Kept.refl _ _).alloc _).grown ef (λj e=>.inl e) | exact(((Kept.refl _ _).drew).alloc _).grown ef (λj e=>.inl e) | exact(((Kept.refl _ _).drewN _).alloc _).grown ef (λj e=>.inl e));have HS5:Hid (Sm w5 h most (.slice ao M cap) bv va gone e):=hid (HSV.out.kept HK5.out HNE.out);have c5:w5.cell? ⟨h,1,none⟩=some (.slice ao M cap):=HS5.out.cell 1;have f5:w5.frozen? ⟨h,1,none⟩=false:=HS5.out.frozen 1;have HO5:Hid (v5.ownBlock=(Value.slice ao M cap).ownBlock\/∃k,v5.ownBlock=some k/\w.heap.size<=k/\k≠h):=hid (by rcases Pm with e5 | e5;exact .inl e5;exact .inr ⟨_,e5,by simp;omega,by simp;omega⟩);have HR5:Hid (Row w5 v5 (out++[b])):=hr5;obtain⟨a5,jT,gt,_⟩:=hr5.shape;generalize (out++[b]).length=L5 at gt;subst gt;clear hr5 ef Pm CD)
  all_goals
   go_wp2_with fail;rw[rounds_succ];go_wp2_with fail;go_ret;rw[HE.out];have hks:Kept (·=h) w5 (w5.setCell ⟨h,1,none⟩ (.slice a5 L5 jT)):=(Kept.refl (·=h) w5).setCell ⟨h,1,none⟩ _ (.inl rfl);have hS6:Sm (w5.setCell ⟨h,1,none⟩ (.slice a5 L5 jT)) h most (.slice a5 L5 jT) bv va gone e:=by have:=HS5.out.set 1 (.slice a5 L5 jT);simpa using this
   have NS:(Value.slice a5 L5 jT).ownBlock≠some h:=by
    rcases HO5.out with e | ⟨k,e,_,hk⟩
    ·rw[e];exact HNE.out
    ·rw[e];exact λe2=>hk (by injection e2)
   have hK:Kept (λj=>j=h\/(Value.slice ao M cap).ownBlock=some j) w w5:=Kept.trans HKV.out HK5.out (λ_ _ f=>f.elim) (λ_ _ f=>.inr f);refine⟨rfl,⟨.slice a5 L5 jT,?_,?_,?_⟩,?_⟩
   ·first | exact hS6 | exact hS6.kept ((Kept.refl (λ_=>False) _).drew) (λf=>f) | exact hS6.drewN _
   ·first | exact HR5.out.kept hks (λk e e2=>NS (by rw[e,e2])) | exact(HR5.out.kept hks (λk e e2=>NS (by rw[e,e2]))).kept ((Kept.refl (λ_=>False) _).drew) (λ_ _ f=>f)
   ·rcases HO5.out with e | ⟨k,e,hk,_⟩
    ·exact .inl e
    ·exact .inr ⟨k,e,hk⟩
   ·first | exact Kept.trans hK hks (λ_ _ f=>f) (λ_ _ f=>.inl f) | exact(Kept.trans hK hks (λ_ _ f=>f) (λ_ _ f=>.inl f)).drew
theorem tx(w:World)(h most:Nat)(vl bv va:Value)(gone e:Nat)(out:List Nat)(N far:Nat)(hS:Sm w h most vl bv va gone e)(hR:Row w vl out)(bm:vl.ownBlock≠some h)(hm:most≤16384)(ho:out.length≤most)(YH:3≤N)(hN:N≤258)(hf1:1≤far)(CA:far≤40000):
  Calls Tryz.prog 137 #[.pointer (some ⟨h,0,none⟩),.agg #[.int .u8 0,.int .i64 (N:Nat),.int .i64 (far:Nat)]] w λr w'=>Oi w w' h most vl bv va gone e r (dB most out (.copy N far)):=by
 obtain⟨ao,cap,rfl,Q2⟩:=hR.shape;obtain⟨W,hW⟩:∃W,W=w.alloc (.cells #[.int .u8 0,.int .i64 (N:Nat),.int .i64 (far:Nat)] 138):=⟨_,rfl⟩
 have hkW:Same w W:=by rw[hW];exact(Kept.refl _ w).alloc _
 obtain⟨V,hV⟩:∃V,V=W.alloc (.cells #[.int .u8 0] 5):=⟨_,rfl⟩
 have yT:Same W V:=by rw[hV];exact(Kept.refl _ W).alloc _
 have Ym:=hS.lt;have hSW:Sm W h most (.slice ao out.length cap) bv va gone e:=hS.kept hkW (λf=>f);have hSV:Sm V h most (.slice ao out.length cap) bv va gone e:=hSW.kept yT (λf=>f);have LQ:W.heap.size=w.heap.size+1:=by rw[hW];simp
 have w1:=hSW.cell 1;have v0:=hSV.cell 0;have v1:=hSV.cell 1;simp at w1 v0 v1;have HSV:Hid (Sm V h most (.slice ao out.length cap) bv va gone e):=hSV;have HRV:Hid (Row V (.slice ao out.length cap) out):=hid ((hR.kept hkW (λ_ _ f=>f)).kept yT (λ_ _ f=>f));have HKW:Hid (Same w W):=hkW;have HKV:Hid (Same w V):=hid (Same.trans hkW yT);have HNE:Hid ((Value.slice ao out.length cap).ownBlock≠some h):=bm;have HOL:Hid (out.length<=16384):=hid (by omega);have cD:out.length<=cap:=by
  rcases hR.2 with⟨e1,_⟩ | ⟨g,cp,cur,e1,_,_,mr,_⟩
  ·simp only[Value.slice.injEq]at e1;omega
  ·simp only[Value.slice.injEq]at e1;omega
 obtain⟨M,hM⟩:∃M,M=out.length:=⟨_,rfl⟩
 have HM:Hid (M=out.length):=hM;rw[<-hM]at w1 v1 HSV HRV HNE cD;have XM:M<=16384:=by omega
 clear hS hR bm hSW hSV hkW yT;by_cases jj:M<far
 ·have HE:Hid (dB most out (.copy N far)=.error 54):=hid (by simp only[dB];rw[if_pos (by rw[<-hM];exact jj)]);have MR:decide (M<far)=true:=(by simp;omega);subst hV hW;clear hM jj;rw[<-HM.out];go_enter Tryz.func137,Tryz.ntmps137;go_wp2_with fail;go_ret;rw[HE.out];exact⟨rfl,by decide,HKW.out⟩
 ·have MR:decide (M<far)=false:=(by simp;omega);obtain⟨g,Lk⟩:=Q2 (λe0=>by rw[e0]at hM;simp at hM;omega);subst Lk;obtain⟨o,MC⟩:∃o,o=M-far:=⟨_,rfl⟩
  have ZO:(M:Int)-(far:Int)=(o:Int):=(by omega);have how:IntKind.i64.wrap (o:Int)=(o:Int):=(by rw[IntKind.wrap_i64];omega);have i1:(0:Int)<=(o:Int):=(by omega);have i2:(o:Int)<=(M:Int):=(by omega);have i3:(M:Int)<=(cap:Int):=(by omega);have ZA:M-o=far:=(by omega);have YS:decide (0<N)=true:=(by simp;omega);obtain⟨q,hq⟩:∃q,q=most-M:=⟨_,rfl⟩
  have XO:(most:Int)-(M:Int)=(q:Int):=(by omega);by_cases hf:most<M+N
  ·have HE:Hid (dB most out (.copy N far)=.error 56):=hid (by simp only[dB];rw[if_neg (by rw[<-hM];exact jj),if_pos (by rw[<-hM];exact hf)]);have T5:decide (q<N)=true:=(by simp;omega);subst hV hW;clear hM hf hq jj MC;rw[<-HM.out];go_enter Tryz.func137,Tryz.ntmps137;go_wp2_with fail;go_quiet (fail);go_wp2_with fail;go_ret;rw[HE.out];exact⟨rfl,by decide,HKV.out.drewN _⟩
  ·have HE:Hid (dB most out (.copy N far)=.ok (nj far N out)):=hid (by simp only[dB];rw[if_neg (by rw[<-hM];exact jj),if_neg (by rw[<-hM];exact hf)]);have T5:decide (q<N)=false:=(by simp;omega);obtain⟨R,SA⟩:∃R:Nat->Nat,R=λt=>out.getD (out.length-far+t) 0:=⟨_,rfl⟩
   have HFIN:Hid (nj far N out=out++vj R far N):=hid (by rw[SA];exact Mt far N out hf1 (by omega));have HL0:Hid (∀nq,Rb w (V.drewN nq) h most (.slice (some ⟨g,0,none⟩) M cap) (.slice (some ⟨g,0,none⟩) M cap) bv va gone e out R g o far 0):=hid (λnq=>⟨HSV.out.drewN nq,by
    have e0:out++vj R far 0=out:=(by simp[vj]);rw[e0];exact HRV.out,.inl rfl,HNE.out,(HKV.out.mono (λ_ _ f=>f.elim)).drewN nq,λt ht=>by
    have hrow:=HRV.out;rw[hM]at hrow;have hc:=hrow.cell (o+t) (by omega);have e9:out.length-far+t=o+t:=(by omega);rw[SA];simp only;rw[e9];have hlt:o+t<out.length:=(by omega);have e8:out.getD (o+t) 0=out[o+t]:=(by simp[List.getD,hlt]);rw[e8];exact hc,λ_ t ht=>by omega⟩)
   have yN:0<far:=(by omega);subst hV hW;clear hf hq jj MC SA;rw[<-HM.out];clear hM;go_enter Tryz.func137,Tryz.ntmps137;go_wp2_with fail;go_quiet (fail);go_wp2_with fail;go_loopg [46] N (λq z wr=>∃(i:Nat) (vi:Value),N-i<=q/\i<=N/\z=.int .i64 (i:Nat)/\Hid (Rb w wr h most (.slice (some ⟨g,0,none⟩) M cap) vi bv va gone e out R g o far i))
   case atStart=>exact⟨0,_,by omega,by omega,rfl,HL0.out _⟩
   case round=>
    clear HL0 HSV HRV HKW HKV v0 v1 w1;obtain⟨i,vi,Lx,hi,rfl,HY⟩:=hrel;by_cases hlt:i<N
    ·obtain⟨r,hr⟩:∃r,r=i % far:=⟨_,rfl⟩
     have Lj:r<far:=(by rw[hr];exact Nat.mod_lt _ yN);have Z0:(i:Int) % (far:Int)=(r:Int):=(by rw[hr];simp);have YX:Int.tmod (i:Int) (far:Int)=(r:Int):=(by rw[hr];rfl);have HR:Hid (r=i % far):=hr;obtain⟨ai,ci,Va,_⟩:=HY.out.row.shape;obtain⟨Li,U1⟩:∃L,L=(out++vj R far i).length:=⟨_,rfl⟩
     rw[<-U1]at Va;subst Va;have d1:wr.cell? ⟨h,1,none⟩=some (.slice ai Li ci):=HY.out.sm.cell 1;obtain⟨x,hx⟩:∃x,x=R r:=⟨_,rfl⟩
     have dr:wr.cell? ⟨g,o+r,none⟩=some (.int .u8 (x:Nat)):=(by rw[hx];exact HY.out.src r Lj);have HXR:Hid (x=R r):=hx;have Jl:=HY.out.sm.lt;have HBL:Hid ((out++vj R far i).length+[x].length<=1000000000000):=hid (by rw[List.length_append,zG];have:=HOL.out;simp;omega);have Tj:¬far=0:=(by omega);have HNX:Hid (out++vj R far i++[x]=out++vj R far (i+1)):=hid (by rw[x8,List.append_assoc,<-HR.out,<-HXR.out]);have va1:(wr.drew.alloc (.cells #[.int .u8 (x:Nat)] 5)).cell? ⟨h,1,none⟩=some (.slice ai Li ci):=(((Kept.refl (λ_=>False) wr).drew).alloc _).cell d1 (λf=>f);have TY:(wr.alloc (.cells #[.int .u8 (x:Nat)] 5)).cell? ⟨h,1,none⟩=some (.slice ai Li ci):=((Kept.refl (λ_=>False) wr).alloc _).cell d1 (λf=>f);clear hr U1 hx;go_wp2_with fail;go_region_law (refine iS rfl (.tmp 53) (.tmp 61) rfl (.slice ai Li ci) (out++vj R far i) (by simp[Act.eval]) (HY.out.row.kept (by first | exact(Kept.refl (λ_=>False) _).alloc _ | exact((Kept.refl (λ_=>False) _).drew).alloc _) (λ_ _ f=>f)) ⟨_,0,none⟩ 1 1 [x] (by simp[Act.eval]) rfl (iq _ _) HBL.out ?_;intro v5 w5 hr5 ef Pm CD;have HK5:Hid (Kept (λj=>(Value.slice ai Li ci).ownBlock=some j) wr w5):=hid (by first | exact((Kept.refl _ _).alloc _).grown ef (λj e=>.inl e) | exact(((Kept.refl _ _).drew).alloc _).grown ef (λj e=>.inl e));have HS5:Hid (Sm w5 h most (.slice ai Li ci) bv va gone e):=hid (HY.out.sm.kept HK5.out HY.out.ne);have c5:w5.cell? ⟨h,1,none⟩=some (.slice ai Li ci):=HS5.out.cell 1;have f5:w5.frozen? ⟨h,1,none⟩=false:=HS5.out.frozen 1;have HO5:Hid (v5.ownBlock=(Value.slice ai Li ci).ownBlock\/∃k,v5.ownBlock=some k/\wr.heap.size<=k):=hid (by rcases Pm with e5 | e5;exact .inl e5;exact .inr ⟨_,e5,by simp⟩);have HC5:Hid (∀t,t<far->w5.cell? ⟨g,o+t,none⟩=some (.int .u8 (R t:Nat))):=hid (λt ht=>CD _ _ _ (λe=>by have:=HY.out.off e t ht;rw[List.length_append];omega) (by first | exact(((Kept.refl (λ_=>False) wr).drew).alloc _).cell (HY.out.src t ht) (λf=>f) | exact((Kept.refl (λ_=>False) wr).alloc _).cell (HY.out.src t ht) (λf=>f)));have HR5:Hid (Row w5 v5 (out++vj R far (i+1))):=hid (by rw[<-HNX.out];exact hr5);obtain⟨a5,jT,gt,_⟩:=hr5.shape;generalize (out++vj R far i++[x]).length=L5 at gt;subst gt;clear hr5 ef Pm CD)
     all_goals
      go_wp2_with fail;go_roundg (gk-1)
      case measure=>omega
      case rel=>
       have hks:Kept (·=h) w5 (w5.setCell ⟨h,1,none⟩ (.slice a5 L5 jT)):=(Kept.refl (·=h) w5).setCell ⟨h,1,none⟩ _ (.inl rfl);have U6:g<wr.heap.size:=World.block_lt_of_cell? wr _ (HY.out.src 0 yN);have NS:(Value.slice a5 L5 jT).ownBlock≠some h:=by
        rcases HO5.out with e | ⟨k,e,hk⟩
        ·rw[e];exact HY.out.ne
        ·rw[e];intro e2;injection e2 with e2;omega
       have S7:Rb w (w5.setCell ⟨h,1,none⟩ (.slice a5 L5 jT)) h most (.slice (some ⟨g,0,none⟩) M cap) (.slice a5 L5 jT) bv va gone e out R g o far (i+1):=by
        refine⟨?_,HR5.out.kept hks (λk e e2=>NS (by rw[e,e2])),?_,NS,?_,λt ht=>hks.cell (HC5.out t ht) (λe=>HNE.out (by simp[Value.ownBlock];exact e)),?_⟩
        ·have:=HS5.out.set 1 (.slice a5 L5 jT);simpa using this
        ·rcases HO5.out with e | ⟨k,e,hk⟩
         ·rw[e];exact HY.out.own
         ·exact .inr ⟨k,e,Nat.le_trans HY.out.kp.size hk⟩
        ·have hk5:Kept (fun j=>j=h∨(Value.slice (some ⟨g,0,none⟩) M cap).ownBlock=some j) w w5:=Kept.trans HY.out.kp HK5.out (fun _ _ f=>f) (fun j hj f=>by
          rcases HY.out.own with e | ⟨k,e,hk⟩
          ·rw[e]at f;exact .inr f
          ·rw[e]at f;injection f with f;omega)
         exact Kept.trans hk5 hks (λ_ _ f=>f) (λ_ _ f=>.inl f)
        ·rcases HO5.out with e | ⟨k,e,hk⟩
         ·rw[e];exact HY.out.off
         ·rw[e];intro e2;injection e2 with e2;omega
       exact⟨i+1,_,by omega,by omega,by go_num,S7⟩
    ·have Vn:i=N:=(by omega);subst Vn;go_wp2_with fail;go_ret;rw[HE.out];exact⟨rfl,⟨vi,HY.out.sm,by rw[HFIN.out];exact HY.out.row,HY.out.own⟩,HY.out.kp⟩
end Go.Proofs.YtkhagfgineifhaaGreatDoor
