import Derived.Defers
import Derived.Recover
import Derived.BigQuiet
import Derived.Lib.SlBytesConst
import Derived.Deep.QuietTactic
import Derived.Test.YtllcnlnbpikhdaaGreatDoorJ47
set_option maxHeartbeats 4000000
set_option maxRecDepth 100000
namespace Go.Proofs.YtllcnlnbpikhdaaGreatDoor
open Go.RowKit
theorem nY(p:Nat)(x:Int)(n:Nat)(w:World)(hc:w.cell? ⟨p,0,none⟩=some (.int .i64 x))(hz:w.frozen? ⟨p,0,none⟩=false):
  CallsD Tryz.prog 14 #[.pointer (some ⟨p,0,none⟩)] (.panicking [{v:=.iface 25 (.int .i64 (n:Nat)),recovered:=false}]) w λe u' w'=>
   e=.returned (.tuple #[])/\u'=.panicking [{v:=.iface 25 (.int .i64 (n:Nat)),recovered:=true}]/\w'=w.setCell ⟨p,0,none⟩ (.int .i64 (n:Nat)):=by
 refine callsD_of_wpS Tryz.func14 rfl λc₀ cs hu=>?_
 have HG:=mK w n;apply wpS_region;simp[wpOpsS,go_sem,recoverD,hu,Tryz.ntmps14];refine HG.mono ?_;rintro e w' ⟨rfl,rfl⟩;simp[go_sem,hc,hz,bodyPostS,results,Tryz.results14]
theorem vG(p:Nat)(x:Int)(w:World)(hc:w.cell? ⟨p,0,none⟩=some (.int .i64 x))(hz:w.frozen? ⟨p,0,none⟩=false):
  CallsD Tryz.prog 14 #[.pointer (some ⟨p,0,none⟩)] .returning w λe u' w'=>e=.returned (.tuple #[])/\u'=.returning/\w'=w.setCell ⟨p,0,none⟩ (.int .i64 0):=by
 refine callsD_of_wpS Tryz.func14 rfl λc₀ cs hu=>?_
 have HG:=mv w;apply wpS_region;simp[wpOpsS,go_sem,recoverD,hu,Tryz.ntmps14];refine HG.mono ?_;rintro e w' ⟨rfl,rfl⟩;cases c₀;simp_all[go_sem,bodyPostS,results,Tryz.results14]
theorem iI(p:Nat)(x:Int)(n:Nat)(w:World)(hc:w.cell? ⟨p,0,none⟩=some (.int .i64 x))(hz:w.frozen? ⟨p,0,none⟩=false):
  CallsD Tryz.prog 10 #[.pointer (some ⟨p,0,none⟩)] (.panicking [{v:=.iface 25 (.int .i64 (n:Nat)),recovered:=false}]) w λe u' w'=>
   e=.returned (.tuple #[])/\u'=.panicking [{v:=.iface 25 (.int .i64 (n:Nat)),recovered:=true}]/\w'=w.setCell ⟨p,0,none⟩ (.int .i64 (n:Nat)):=by
 refine callsD_of_wpS Tryz.func10 rfl λc₀ cs hu=>?_
 have HG:=mK w n;apply wpS_region;simp[wpOpsS,go_sem,recoverD,hu,Tryz.ntmps10];refine HG.mono ?_;rintro e w' ⟨rfl,rfl⟩;simp[go_sem,hc,hz,bodyPostS,results,Tryz.results10]
theorem uM(p:Nat)(x:Int)(w:World)(hc:w.cell? ⟨p,0,none⟩=some (.int .i64 x))(hz:w.frozen? ⟨p,0,none⟩=false):
  CallsD Tryz.prog 10 #[.pointer (some ⟨p,0,none⟩)] .returning w λe u' w'=>e=.returned (.tuple #[])/\u'=.returning/\w'=w.setCell ⟨p,0,none⟩ (.int .i64 0):=by
 refine callsD_of_wpS Tryz.func10 rfl λc₀ cs hu=>?_
 have HG:=mv w;apply wpS_region;simp[wpOpsS,go_sem,recoverD,hu,Tryz.ntmps10];refine HG.mono ?_;rintro e w' ⟨rfl,rfl⟩;cases c₀;simp_all[go_sem,bodyPostS,results,Tryz.results10]
structure Itv where
 m:Mk
 a:Option Addr
 n:Nat
 c:Nat
instance:Inhabited Itv:=⟨⟨⟨0,0,0,0,[]⟩,none,0,0⟩⟩
def Itv.v(x:Itv):Value:=.slice x.a x.n x.c
def nh(x:Itv):List Value:=[.int .u16 (x.m.way:Nat),.int .u32 (x.m.sum:Nat),.int .u32 (x.m.packed:Nat),.int .u32 (x.m.size:Nat),.string (bF x.m.name),.slice x.a x.n x.c]
theorem ub:dI nh 6:=⟨λ_=>rfl,λx u hu=>by simp[nh]at hu;rcases hu with rfl | rfl | rfl | rfl | rfl | rfl<;>rfl,by decide⟩
theorem Tryz.infoItem:(Tryz.prog.info? 49).map (λi=>(i.zero,i.size,i.bytes))=some (some (.agg #[.int .u16 0,.int .u32 0,.int .u32 0,.int .u32 0,.string ⟨#[]⟩,.slice none 0 0]),6,56):=by kernel_rfl
theorem Tryz.infoEntry:(Tryz.prog.info? 39).map (λi=>(i.zero,i.size,i.bytes))=some (some (.agg #[.string ⟨#[]⟩,.string ⟨#[]⟩]),2,32):=by kernel_rfl
def qH(y:En):List Value:=[.string y.n,.string y.d]
theorem ny:dI qH 2:=⟨λ_=>rfl,λx u hu=>by simp[qH]at hu;rcases hu with rfl | rfl<;>rfl,by decide⟩
theorem RowC.at8{α:Type}{B:Nat}{t k:Nat}{enc:α->List Value}(ok:dI enc k){w:World}{v:Value}{xs:List α}(h:RowC B t k enc w v xs)(j:Nat)(hj:j<xs.length):∃g cap,v=.slice (some ⟨g,0,none⟩) xs.length cap/\B<=g/\∀i,i<k->w.cell? ⟨g,j*k+i,none⟩=(enc xs[j])[i]?:=by
 rcases h.2 with⟨_,h0⟩ | ⟨g,cap,cur,hv,hb,_⟩
 ·omega
 ·refine⟨g,cap,hv,hb,λi hi=>?_⟩;have hg:=qB ok xs j i hj hi;have uD:i<(enc xs[j]).length:=(by rw[ok.len];exact hi);rw[List.getElem?_eq_getElem uD]at hg ⊢;have:=World.ownsRow.cells h (g:=g) (by rw[hv];rfl) (j*k+i) _ hg;rw[cL,Nat.zero_add]at this;exact this
theorem Itms.ofRow{B:Nat}{w:World}{a:Option Addr}{n c:Nat}{xs:List Itv}(h:RowC B 49 6 nh w (.slice a n c) xs)(hn:n=xs.length):Itms w a n (λj=>(xs.getD j default).m) (λj=>(xs.getD j default).v):=by
 subst hn;intro j hj;obtain⟨g,cap,hv,_,hc⟩:=h.at8 ub j hj;simp only[Value.slice.injEq]at hv;have e:xs.getD j default=xs[j]:=by rw[List.getD_eq_getElem?_getD,List.getElem?_eq_getElem hj];rfl
 simp only[e];refine⟨g,0,hv.1,?_,?_,?_,?_,?_,?_⟩
 ·have:=hc 0 (by decide);simpa[nh]using this
 ·have:=hc 1 (by decide);simpa[nh]using this
 ·have:=hc 2 (by decide);simpa[nh]using this
 ·have:=hc 3 (by decide);simpa[nh]using this
 ·have:=hc 4 (by decide);simpa[nh]using this
 ·have:=hc 5 (by decide);simpa[nh,Itv.v]using this
structure ItAt(N:Nat)(w:World)(x:Itv)(y:It):Prop where
 lab:x.m=y.lab
 src:Src w (λk=>k<N) (.slice x.a x.n x.c) y.bytes
 len:x.n=y.bytes.length
 byte:∀b∈y.bytes,b<256
 nam:∀b∈y.lab.name,b<256
 ok:gE y.lab
 pk:y.bytes.length=y.lab.packed
 ck:∃a,de y.lab a=0
 adr:x.a≠none
def Its(N:Nat)(w:World)(xs:List Itv)(L:List It):Prop:=xs.length=L.length/\∀(j:Nat) (x:Itv) (y:It),xs[j]? = some x->L[j]? = some y->ItAt N w x y
theorem Its.nil(N:Nat)(w:World):Its N w [] []:=⟨rfl,λj x y h=>(by simp at h)⟩
theorem ItAt.kept{F:Nat->Prop}{N:Nat}{w w':World}{x:Itv}{y:It}(h:ItAt N w x y)(hk:Kept F w w')(hF:∀k,k<N->¬F k):ItAt N w' x y:=
 ⟨h.lab,h.src.kept hk (λk hk _=>hF k hk),h.len,h.byte,h.nam,h.ok,h.pk,h.ck,h.adr⟩
theorem Its.kept{F:Nat->Prop}{N:Nat}{w w':World}{xs:List Itv}{L:List It}(h:Its N w xs L)(hk:Kept F w w')(hF:∀k,k<N->¬F k):Its N w' xs L:=
 ⟨h.1,λj x y h1 h2=>(h.2 j x y h1 h2).kept hk hF⟩
theorem Its.snoc{N:Nat}{w:World}{xs:List Itv}{L:List It}(h:Its N w xs L){x:Itv}{y:It}(hx:ItAt N w x y):Its N w (xs++[x]) (L++[y]):=by
 refine⟨by simp[h.1],λj x' y' h1 h2=>?_⟩;by_cases hj:j<xs.length
 ·rw[List.getElem?_append_left hj]at h1;rw[List.getElem?_append_left (by rw[<-h.1];exact hj)]at h2;exact h.2 j x' y' h1 h2
 ·rw[List.getElem?_append_right (by omega)]at h1;rw[List.getElem?_append_right (by rw[<-h.1];omega),<-h.1]at h2;have e:j-xs.length=0:=by
   rcases Nat.eq_zero_or_pos (j-xs.length)with e | e
   ·exact e
   ·rw[List.getElem?_eq_none (by simp;omega)]at h1;cases h1
  rw[e]at h1 h2;simp only[List.getElem?_cons_zero,Option.some.injEq]at h1 h2;subst h1;subst h2;exact hx
theorem Its.names{N:Nat}{w:World}{xs:List Itv}{L:List It}(h:Its N w xs L):jz (λj=>(xs.getD j default).m) xs.length=be L:=by
 unfold jz be;refine List.ext_getElem (by simp[h.1]) (λj h1 h2=>?_);simp only[List.length_map,List.length_range]at h1 h2;simp only[List.getElem_map,List.getElem_range];have e:xs.getD j default=xs[j]:=by rw[List.getD_eq_getElem?_getD,List.getElem?_eq_getElem h1];rfl
 rw[e,(h.2 j _ _ (List.getElem?_eq_getElem h1) (List.getElem?_eq_getElem h2)).lab]
theorem Its.nam{N:Nat}{w:World}{xs:List Itv}{L:List It}(h:Its N w xs L):∀i,i<xs.length->∀b∈(xs.getD i default).m.name,b<256:=by
 intro j hj;have h2:j<L.length:=by rw[<-h.1];exact hj
 have e:xs.getD j default=xs[j]:=by rw[List.getD_eq_getElem?_getD,List.getElem?_eq_getElem hj];rfl
 have hi:=h.2 j _ _ (List.getElem?_eq_getElem hj) (List.getElem?_eq_getElem h2);rw[e,hi.lab];exact hi.nam
def OpnA(w w':World)(o:Except Nat (List It))(e:Ending):Prop:=
 (∀k,o=.error k->e=aG k)/\(∀L,o=.ok L->∃a n c xs,e=.returned (.slice a n c)/\RowC w.heap.size 49 6 nh w' (.slice a n c) xs/\Its w.heap.size w' xs L/\n=xs.length/\n<=c/\n<=64)/\Same w w'
theorem OpnA.bad{w w':World}{o:Except Nat (List It)}{e:Ending}{k:Nat}(h:o=.error k)(he:e=aG k)(hk:Same w w'):OpnA w w' o e:=
 ⟨λk' h'=>by rw[h]at h';simp only[Except.error.injEq]at h';subst h';exact he,λL h'=>(by rw[h]at h';cases h'),hk⟩
theorem OpnA.good{w w':World}{o:Except Nat (List It)}{e:Ending}{L:List It}(h:o=.ok L){a:Option Addr}{n c:Nat}{xs:List Itv}(he:e=.returned (.slice a n c))(hr:RowC w.heap.size 49 6 nh w' (.slice a n c) xs)(hi:Its w.heap.size w' xs L)(hn:n=xs.length)(hc:n<=c)(h64:n<=64)(hk:Same w w'):OpnA w w' o e:=
 ⟨λk' h'=>(by rw[h]at h';cases h'),λL' h'=>by rw[h]at h';simp only[Except.ok.injEq]at h';subst h';exact⟨a,n,c,xs,he,hr,hi,hn,hc,h64⟩,hk⟩
theorem vH{m:Mk}{r b y:List Nat}(h:iC m r=some (b,y)):y.length<=r.length/\b.length=m.packed:=by
 unfold iC at h;rw[Bq]at h;split at h
 ·rw[ak]at h;obtain⟨h1,h2,h3⟩:=xy h;rw[h2,h3,List.length_drop,List.length_take,List.length_drop];rw[List.length_drop]at h1;omega
 ·rw[bB]at h;cases h
theorem Gj{fs n:Nat}{P R:List Nat}{l:List It}(h:eU R=none):dW fs (n+1) P R l=.error 81:=by rw[dW,h]
theorem F7{fs n:Nat}{P R R':List Nat}{l:List It}{m:Mk}{at':Nat}(h:eU R=some ((m,at'),R'))(hc:de m (be l)≠0):dW fs (n+1) P R l=.error (de m (be l)):=by rw[dW,h];simp only;rw[if_pos hc]
theorem IY{fs n:Nat}{P R R':List Nat}{l:List It}{m:Mk}{at':Nat}(h:eU R=some ((m,at'),R'))(hc:de m (be l)=0)(ha:at'≠fs-P.length):dW fs (n+1) P R l=.error 81:=by rw[dW,h];simp only;rw[if_neg (by omega),if_pos ha]
theorem Fm{fs n:Nat}{P R R':List Nat}{l:List It}{m:Mk}{at':Nat}(h:eU R=some ((m,at'),R'))(hc:de m (be l)=0)(ha:at'=fs-P.length)(hp:iC m P=none):dW fs (n+1) P R l=.error 81:=by rw[dW,h];simp only;rw[if_neg (by omega),if_neg (by omega),hp]
theorem Cy{fs n:Nat}{P R R':List Nat}{l:List It}{m:Mk}{at':Nat}(h:eU R=some ((m,at'),R'))(hc:de m (be l)=0)(ha:at'=fs-P.length){b P':List Nat}(hp:iC m P=some (b,P')):dW fs (n+1) P R l=dW fs n P' R' (l++[⟨m,b⟩]):=by rw[dW,h];simp only;rw[if_neg (by omega),if_neg (by omega),hp]
theorem RowC.off{α:Type}{B t k:Nat}{enc:α->List Value}{w:World}{v:Value}{xs:List α}(h:RowC B t k enc w v xs){g:Nat}{cs:Array Value}{t':Nat}(hb:Blk w g cs t')(ht:t'≠t):v.ownBlock≠some g:=by
 intro e;rcases h.2 with⟨rfl,_⟩ | ⟨g',cap,cur,rfl,_,hg,_⟩
 ·cases e
 ·simp only[Value.ownBlock,Option.some.injEq]at e;subst e;unfold Blk at hb;rw[hb]at hg;simp only[Option.some.injEq,Obj.cells.injEq]at hg;exact ht hg.2.1
structure Pj(w wr:World)(fs:Nat)(o:Except Nat (List It))(left:Nat)(pb rb:Nat)(i:Nat)(v:Value)(xs:List Itv)(L:List It)(P R:List Nat)(ap ar:Option Addr)(cp cr:Nat):Prop where
 row:RowC w.heap.size 49 6 nh wr v xs
 its:Its w.heap.size wr xs L
 len:L.length=i
 pie:Cur w.heap.size wr pb P ap cp
 recs:Cur w.heap.size wr rb R ar cr
 same:Same w wr
 eq:o=dW fs left P R L
 two:pb≠rb
 fit:P.length<=fs
theorem Src.cut8{w:World}{I:Nat->Prop}{b o n c:Nat}{bs:List Nat}(hs:Src w I (.slice (some ⟨b,o,none⟩) n c) bs)(i j:Nat)(Hf:i<=j)(hj:j<=bs.length)(c':Nat):Src w I (.slice (some ⟨b,o+i,none⟩) (j-i) c') ((bs.take j).drop i):=by
 obtain⟨ao,cap,e,h9⟩:=hs;simp only[Value.slice.injEq]at e;obtain⟨rfl,_,rfl⟩:=e;refine⟨_,_,by rw[List.length_drop,List.length_take,Nat.min_eq_left hj],λbh=>?_⟩;have hl:i<j:=by refine Classical.byContradiction (λhc=>bh ?_);exact List.drop_eq_nil_of_le (by rw[List.length_take];omega)
 obtain⟨b',o',e4,h5,h6⟩:=h9 (λe=>by rw[e]at hj;simp at hj;omega);simp only[Option.some.injEq,Addr.mk.injEq,and_true]at e4;obtain⟨rfl,rfl⟩:=e4;refine⟨b,o+i,rfl,h5,λk hk=>?_⟩;rw[List.length_drop,List.length_take]at hk;have:=h6 (i+k) (by omega);rw[List.getElem_drop,List.getElem_take,Nat.add_assoc];exact this
theorem BB{w w3:World}{fs cnt b o c pn:Nat}{P0 R0:List Nat}{o8:Except Nat (List It)}(hk:Same w w3)(h8:o8=dW fs cnt P0 R0 [])(hsp:Src w (λk=>k<w.heap.size) (.slice (some ⟨b,o,none⟩) fs c) P0)(hsr:Src w (λk=>k<w.heap.size) (.slice (some ⟨b,o+fs,none⟩) (pn-fs) (c-fs)) R0)(hl:P0.length=fs/\R0.length=pn-fs)(tf:(∀x∈P0,x<256)/\(∀x∈R0,x<256))(h1:fs<=pn)(h2:pn<=c)(h3:pn<=1048576){wx:World}{pb rb:Nat}(Py:Same w3 wx)(hb1:Blk wx pb #[.slice (some ⟨b,o,none⟩) fs c] 64)(hb2:Blk wx rb #[.slice (some ⟨b,o+fs,none⟩) (pn-fs) (c-fs)] 64)(hn1:w3.heap.size<=pb)(hn2:w3.heap.size<=rb)(bh:pb≠rb):Pj w wx fs o8 cnt pb rb 0 (.slice none 0 0) [] [] P0 R0 (some ⟨b,o,none⟩) (some ⟨b,o+fs,none⟩) c (c-fs):=by have hkk:=Same.trans hk Py;have cX:=hk.size;refine⟨RowC.nil,Its.nil _ _,rfl,⟨by rw[hl.1];exact hb1,by rw[hl.1];exact hsp.kept hkk (λ_ _ _ f=>f),by omega,by omega,tf.1,by omega,by simp⟩,⟨by rw[hl.2];exact hb2,by rw[hl.2];exact hsr.kept hkk (λ_ _ _ f=>f),by omega,by omega,tf.2,by omega,by simp⟩,hkk,h8,bh,by omega⟩
theorem y5(w:World)(x:Itv):aR (w.alloc (.cells #[.int .u16 (x.m.way:Nat),.int .u32 (x.m.sum:Nat),.int .u32 (x.m.packed:Nat),.int .u32 (x.m.size:Nat),.string (bF x.m.name),.slice x.a x.n x.c] 49)) ⟨w.heap.size,0,none⟩ ([x].flatMap nh):=by
 intro j u hj
 match j,hj with
 | 0,hj=>simp[nh]at hj;subst hj;simp[cL]
 | 1,hj=>simp[nh]at hj;subst hj;simp[cL]
 | 2,hj=>simp[nh]at hj;subst hj;simp[cL]
 | 3,hj=>simp[nh]at hj;subst hj;simp[cL]
 | 4,hj=>simp[nh]at hj;subst hj;simp[cL]
 | 5,hj=>simp[nh]at hj;subst hj;simp[cL]
 | j+6,hj=>simp[nh]at hj
theorem C8(w:World)(b o:Nat)(c:Nat)(bs:List Nat)(n:Nat)(hL:n=bs.length)(hs:Src w (fun k=>k<w.heap.size) (.slice (some ⟨b,o,none⟩) n c) bs)(hb:∀x∈bs,x<256)(cj:n≤c)(h1:22≤n)(h2:n≤1048576)(cnt fs:Nat)(he:iy (bs.drop (n-22)) (n-22)=.ok (cnt,fs))(hf:fs≤n-22)(h64:cnt≤64)(hx:Mxl w):
  Calls Tryz.prog 13 #[.slice (some ⟨b,o,none⟩) n c] w λe w'=>OpnA w w' (dW fs cnt (bs.take fs) ((bs.take (n-22)).drop fs) []) e:=by
 have b1:decide ((n:Int)<=1048576)=true:=by simp;omega
 have b2:decide (n<=1048576)=true:=by simp;omega
 have b3:decide ((22:Int)<=(n:Int))=true:=by simp;omega
 have b4:decide (22<=n)=true:=by simp;omega
 obtain⟨p,hp⟩:∃p,p=n-22:=⟨_,rfl⟩
 rw[<-hp]at he hf ⊢;have KO:(n:Int)-22=(p:Int):=by omega
 have lY:IntKind.i64.wrap (p:Int)=(p:Int):=by rw[IntKind.wrap_i64];omega
 have i1:(0:Int)<=(p:Int):=by omega
 have i2:(p:Int)<=(n:Int):=by omega
 have i3:(n:Int)<=(c:Int):=by omega
 have HO:=bi w (.int .i64 2);have HP:=bi w (.int .i64 81);have yj:(bs.drop p).length=22:=by rw[List.length_drop];omega
 have HSD:Hid (∀c',Src w (λk=>k<w.heap.size) (.slice (some ⟨b,o+p,none⟩) (bs.drop p).length c') (bs.drop p)):=hid (λc'=>by
  have h9:=hs.cut8 p n (by omega) (by omega) c';rw[List.take_of_length_le (by omega)]at h9;rw[yj];rw[show n-p=22 by omega]at h9;exact h9)
 have HE:Hid (∀c',22<=c'->Calls Tryz.prog 24 #[.slice (some ⟨b,o+p,none⟩) 22 c',.int .i64 (p:Nat)] w λe w'=>EndA w w' (iy (bs.drop p) p) e):=hid (λc' h9=>by
  have h8:=A7 w.heap.size w (bs.drop p) (some ⟨b,o+p,none⟩) c' p (HSD.out c') (by omega) (Nat.le_refl _) (λx hx=>hb x (List.mem_of_mem_drop hx)) (by omega) (by omega) (by simp);rw[yj]at h8;exact h8)
 have Iu:n-p=22:=by omega
 have HER:Hid (iy (bs.drop p) p=.ok (cnt,fs)):=he;have HSP:Hid (Src w (λk=>k<w.heap.size) (.slice (some ⟨b,o,none⟩) fs c) (bs.take fs)):=hid (by
  have h9:=hs.cut8 0 fs (by omega) (by omega) c;simpa using h9)
 have HSR:Hid (Src w (λk=>k<w.heap.size) (.slice (some ⟨b,o+fs,none⟩) (p-fs) (c-fs)) ((bs.take p).drop fs)):=hid (hs.cut8 fs p hf (by omega) _);have HBY:Hid (∀x∈bs,x<256):=hb;have HLP:Hid ((bs.take fs).length=fs/\((bs.take p).drop fs).length=p-fs):=hid ⟨by rw[List.length_take];omega,by rw[List.length_drop,List.length_take];omega⟩;have HX:Hid (Mxl w):=hx;have j1:(0:Int)<=(fs:Int):=by omega
 have j2:(fs:Int)<=(p:Int):=by omega
 have j3:(fs:Int)<=(c:Int):=by omega
 have j4:(p:Int)<=(c:Int):=by omega
 have j5:¬c=fs:=by omega
 have Wj:fs<=1048576:=by omega
 have N9:p<=1048576:=by omega
 have Ex:fs<=p:=hf;have RU:p<=c:=by omega
 obtain⟨P0,Rn⟩:∃P,P=bs.take fs:=⟨_,rfl⟩
 obtain⟨R0,Sh⟩:∃R,R=(bs.take p).drop fs:=⟨_,rfl⟩
 have HPR:Hid ((∀x∈P0,x<256)/\(∀x∈R0,x<256)):=hid (by
  rw[Rn,Sh];exact⟨λx hx=>hb x (List.mem_of_mem_take hx),λx hx=>hb x (List.mem_of_mem_take (List.mem_of_mem_drop hx))⟩)
 rw[<-Rn]at HSP HLP ⊢;rw[<-Sh]at HSR HLP ⊢;obtain⟨o8,Ro⟩:∃x,x=dW fs cnt P0 R0 []:=⟨_,rfl⟩
 have HO8:Hid (o8=dW fs cnt P0 R0 []):=Ro;rw[<-Ro];clear hs hb h1 h2 yj he hp hL Rn Sh HBY Ro hx hf;go_enter Tryz.func13,Tryz.ntmps13;go_wp2_with fail;refine HO.mono ?_;rintro e w1 ⟨rfl,hw1⟩;subst hw1;clear HO;go_wp2_with fail;refine HP.mono ?_;rintro e w2 ⟨rfl,hw2⟩;subst hw2;clear HP;go_wp2_with fail;refine(HE.out _ (by omega)).mono ?_;intro e w3 h3;obtain⟨rfl,hk3⟩:=h3.1 cnt fs HER.out;have HK3:Hid (Same w2 w3):=hk3;clear h3 hk3;go_upto_region 5 with fail
 go_cut [6,7]from 30 to 40 (λz6 z7 wx=>∃pb rb,z6=.pointer (some ⟨pb,0,none⟩)/\z7=.pointer (some ⟨rb,0,none⟩)/\Hid (Pj w2 wx fs o8 cnt pb rb 0 (.slice none 0 0) [] [] P0 R0 (some ⟨b,o,none⟩) (some ⟨b,o+fs,none⟩) c (c-fs)))
 case first=>
  go_region
  ·go_wp2_with fail;go_meet
   refine⟨_,_,rfl,rfl,hid (BB HK3.out HO8.out HSP.out HSR.out HLP.out HPR.out Ex RU N9 ((((Kept.refl _ w3).alloc _).alloc _).drew) ?_ ?_ (Nat.le_refl _) (Nat.le_succ _) (by omega))⟩
   ·exact(Blk.new w3 _ _).kept (show Same _ _ from((Kept.refl _ _).alloc _).drew) (λf=>f)
   ·have h9:=Blk.new (w3.alloc (.cells #[.slice (some ⟨b,o,none⟩) fs c] 64)) #[.slice (some ⟨b,o+fs,none⟩) (p-fs) (c-fs)] 64;rw[World.size_alloc]at h9;exact h9
  ·go_wp2_with fail;go_meet
   refine⟨_,_,rfl,rfl,hid (BB HK3.out HO8.out HSP.out HSR.out HLP.out HPR.out Ex RU N9 ((((Kept.refl _ w3).alloc _).alloc _).drew) ?_ ?_ (Nat.le_succ _) (Nat.le_refl _) (by omega))⟩
   ·have h9:=Blk.new (w3.alloc (.cells #[.slice (some ⟨b,o+fs,none⟩) (p-fs) (c-fs)] 64)) #[.slice (some ⟨b,o,none⟩) fs c] 64;rw[World.size_alloc]at h9;exact h9
   ·exact(Blk.new w3 _ _).kept (show Same _ _ from((Kept.refl _ _).alloc _).drew) (λf=>f)
 case rest=>
  obtain⟨pb,rb,rfl,rfl,HI0⟩:=hcut;clear HSD HE HSP HSR HLP HPR HO8 HER HK3 j1 j2 j3 j4 j5 i1 i2 i3 KO lY Iu cj RU N9 Ex;go_wp2_with fail;go_loopg [8,42] cnt (λqq z8 z42 wr=>∃(i:Nat) (xs:List Itv) (L:List It) (P R:List Nat) (ap ar:Option Addr) (cp cr:Nat),z42=.int .i64 (i:Nat)/\i<=cnt/\cnt-i<=qq/\Hid (Pj w2 wr fs o8 (cnt-i) pb rb i z8 xs L P R ap ar cp cr))
  case atStart=>exact⟨0,[],[],P0,R0,_,_,_,_,rfl,by omega,by omega,HI0⟩
  case round=>
   clear HI0;obtain⟨i,xs,L,P,R,ap,ar,cp,cr,rfl,yd,KV,HI⟩:=hrel;obtain⟨v0,tm⟩:∃v,v=u8:=⟨_,rfl⟩
   rw[<-tm]at HI;rw[<-tm];clear tm;obtain⟨a0,c0,tm,_,_,re,_⟩:=HI.out.row.shape;have rF:xs.length=i:=(by rw[HI.out.its.1,HI.out.len]);rw[rF]at tm re;subst tm;have HXL:Hid (xs.length=i):=rF;obtain⟨np,Iu⟩:∃n,n=P.length:=⟨_,rfl⟩
   obtain⟨nr,MY⟩:∃n,n=R.length:=⟨_,rfl⟩
   have HNP:Hid (np=P.length/\nr=R.length):=hid ⟨Iu,MY⟩;have V0:np<=fs:=(by rw[Iu];exact HI.out.fit);clear Iu MY rF;by_cases hi:i<cnt
   ·have rj:decide (i<cnt)=true:=(by simp;omega);obtain⟨k,hk⟩:∃k,cnt-i=k+1:=⟨cnt-i-1,by omega⟩
    have HLF:Hid (cnt-i=k+1/\cnt-(i+1)=k):=hid ⟨hk,by omega⟩;have GY:IntKind.i64.wrap ((i:Int)+1)=((i+1:Nat):Int):=(by rw[IntKind.wrap_i64];omega);have HEQ:Hid (o8=dW fs (k+1) P R L):=hid (by rw[<-hk];exact HI.out.eq);have H1:=JC w2.heap.size wr rb R ar cr HI.out.recs;clear hk;go_wp2_with fail;refine H1.mono ?_;intro e w4 h4;cases ht:eU R with
    | none=>
     obtain⟨rfl,hk4⟩:=h4.2 ht;have HF:Hid (OpnA w2 w4 o8 (aG 81)):=hid (OpnA.bad (by rw[HEQ.out];exact Gj ht) rfl (HI.out.same.then hk4 (λx hx e=>by have:=HI.out.recs.new;omega)));clear h4 hk4 ht H1;unfold aG;go_wp2_with fail;exact⟨rfl,HF.out⟩
    | some q=>
     obtain⟨⟨m,at'⟩,R'⟩:=q;obtain⟨ar',cr',rfl,rG,hnb,hat,kU,hk4⟩:=h4.1 m at' R' ht;have HT:Hid (eU R=some ((m,at'),R')):=ht;have HM:Hid (gE m/\(∀b∈m.name,b<256)):=hid ⟨rG,hnb⟩;have Ho:(Value.slice a0 i c0).ownBlock≠some rb:=HI.out.row.off HI.out.recs.blk (by decide);have HR4:Hid (RowC w2.heap.size 49 6 nh w4 (.slice a0 i c0) xs):=hid (HI.out.row.kept hk4 (λj e f=>Ho (by rw[e,f])));have HI4:Hid (Its w2.heap.size w4 xs L):=hid (HI.out.its.kept hk4 (λx hx e=>by have:=HI.out.recs.new;omega));have HP4:Hid (Cur w2.heap.size w4 pb P ap cp):=hid (HI.out.pie.kept hk4 HI.out.two (λx hx e=>by have:=HI.out.recs.new;omega));have HC4:Hid (Cur w2.heap.size w4 rb R' ar' cr'):=kU;have HK4:Hid (Same w2 w4):=hid (HI.out.same.then hk4 (λx hx e=>by have:=HI.out.recs.new;omega));obtain⟨wA,py⟩:∃W,W=w4.alloc (.cells #[.int .u16 (m.way:Nat),.int .u32 (m.sum:Nat),.int .u32 (m.packed:Nat),.int .u32 (m.size:Nat),.string (bF m.name)] 47):=⟨_,rfl⟩
     obtain⟨lb,rL⟩:∃b,b=w4.heap.size:=⟨_,rfl⟩
     have HLA:Hid (LabBk wA lb m):=hid (by rw[py,rL];exact Blk.new w4 _ _);have HKA:Hid (Same w4 wA):=hid (by rw[py];exact(Kept.refl _ w4).alloc _);have HCL:=qm wA m a0 i c0 _ _ (Itms.ofRow (HR4.out.kept HKA.out (λ_ _ f=>f)) HXL.out.symm) (by omega) hnb (λj hj=>HI4.out.nam j (by have:=HXL.out;omega)) (HX.out.kept (Same.trans HK4.out HKA.out) (λf=>f));have OS:jz (λj=>(xs.getD j default).m) i=be L:=(by have h9:=HI4.out.names;rw[HXL.out]at h9;exact h9);rw[OS]at HCL;obtain⟨S3,SJ,Tt,OJ,OU⟩:=HLA.out.cells;obtain⟨ck,hck⟩:∃x,x=de m (be L):=⟨_,rfl⟩
     rw[<-hck]at HCL;have HCK:Hid (ck=de m (be L)):=hck;unfold k7 at HCL ⊢;clear h4 hk4 ht H1 rG hnb Ho kU OS hck;go_wp2_with fail;rw[<-py,<-rL];clear py rL;refine HCL.mono ?_;intro e w5 h5;obtain⟨PV,Qk,hk5⟩:=h5;have HK5:Hid (Same w4 w5):=hid (Same.trans HKA.out hk5);by_cases hz:ck=0
     ·have PV:=PV hz;subst PV;have HZ:Hid (de m (be L)=0):=hid (by rw[<-HCK.out];exact hz);have HL5:Hid (LabBk w5 lb m):=hid (HLA.out.kept hk5);have HP5:Hid (Cur w2.heap.size w5 pb P ap cp):=hid (HP4.out.kept HK5.out (λf=>f) (λ_ _ f=>f));obtain⟨d0,d1,d2,d3,d4⟩:=HL5.out.cells;have p0:w5.cell? ⟨pb,0,none⟩=some (.slice ap np cp):=(by have h9:=HP5.out.blk.cell 0;rw[HNP.out.1];simpa using h9);obtain⟨dz,BO⟩:∃d,d=fs-np:=⟨_,rfl⟩
      have TP:(fs:Int)-(np:Int)=(dz:Int):=(by omega);have Yn:IntKind.i64.wrap (dz:Int)=(dz:Int):=(by rw[IntKind.wrap_i64];omega);have YJ:IntKind.u32.wrap (dz:Int)=(dz:Int):=(by rw[IntKind.wrap_u32];omega);have HDZ:Hid (dz=fs-P.length):=hid (by rw[<-HNP.out.1];exact BO);clear Qk hk5 HCL hz HCK S3 SJ Tt OJ OU BO HLA;by_cases ha:at'=dz
      ·have Eu:((at':Int)==(dz:Int))=true:=(by simp;omega);have HA:Hid (at'=fs-P.length):=hid (by rw[<-HDZ.out];exact ha);have HO:=bi w5 (.int .i64 81);have HPI:=JJ w2.heap.size w5 pb m P ap cp HP5.out HM.out.1 HM.out.2 (fZ HZ.out).2.2.2.2.1;unfold k7 at HPI;clear ha hat;go_wp2_with fail;refine HO.mono ?_;rintro e w6 ⟨rfl,hw6⟩;subst hw6;clear HO p0;go_wp2_with fail;refine HPI.mono ?_;intro e w7 h7;cases AD:iC m P with
       | none=>
        obtain⟨rfl,dh⟩:=h7.2 AD;have HF:Hid (OpnA w2 w7 o8 (aG 81)):=hid (OpnA.bad (by rw[HEQ.out];exact Fm HT.out HZ.out HA.out AD) rfl ((Same.trans HK4.out HK5.out).then dh (λx hx e=>by have:=HP5.out.new;omega)));clear h7 dh AD HPI;unfold aG;go_wp2_with fail;exact⟨rfl,HF.out⟩
       | some q=>
        obtain⟨bb,P'⟩:=q;obtain⟨v7,ap',cp',rfl,htk,kU,dh⟩:=h7.1 bb P' AD;obtain⟨va,vc,M1⟩:=htk.shp;subst M1;have HTK:Hid (Tkn w2.heap.size w7 (.slice va m.packed vc) m.packed bb):=htk;have HC7:Hid (Cur w2.heap.size w7 pb P' ap' cp'):=kU;have Ho:(Value.slice a0 i c0).ownBlock≠some pb:=(HR4.out.kept HK5.out (λ_ _ f=>f)).off HP5.out.blk (by decide);have HR7:Hid (RowC w2.heap.size 49 6 nh w7 (.slice a0 i c0) xs):=hid ((HR4.out.kept HK5.out (λ_ _ f=>f)).kept dh (λj e f=>Ho (by rw[e,f])));have HI7:Hid (Its w2.heap.size w7 xs L):=hid ((HI4.out.kept HK5.out (λ_ _ f=>f)).kept dh (λx hx e=>by have:=HP5.out.new;omega));have HRC7:Hid (Cur w2.heap.size w7 rb R' ar' cr'):=hid ((HC4.out.kept HK5.out (λf=>f) (λ_ _ f=>f)).kept dh (λe=>HI.out.two e.symm) (λx hx e=>by have:=HP5.out.new;omega));have HK7:Hid (Same w2 w7):=hid ((Same.trans HK4.out HK5.out).then dh (λx hx e=>by have:=HP5.out.new;omega));have HEQ7:Hid (o8=dW fs k P' R' (L++[⟨m,bb⟩])):=hid (by rw[HEQ.out];exact Cy HT.out HZ.out HA.out AD);have HFIT:Hid (P'.length<=fs):=hid (Nat.le_trans (vH AD).1 HI.out.fit);have Ut:i<=64:=(by omega);unfold jE;clear h7 htk kU dh AD HPI Ho d0 d1 d2 d3 d4;go_wp2_with (at_builtin;refine dR _ nh 6 ub (by decide) w2.heap.size 43 49 (.agg #[.int .u16 0,.int .u32 0,.int .u32 0,.int .u32 0,.string ⟨#[]⟩,.slice none 0 0]) 56 Tryz.underlying43 Tryz.infoItem rfl (by decide) rfl (.tmp 63) (.tmp 67) rfl (.slice a0 i c0) xs rfl (HR7.out.kept (show Same _ _ from(Kept.refl _ _).alloc _) (λ_ _ f=>f)) ⟨w7.heap.size,0,none⟩ 1 1 [⟨m,va,m.packed,vc⟩] rfl rfl (y5 w7 ⟨m,va,m.packed,vc⟩) (by have:=HXL.out;simp;omega) (by have:=HK7.out.size;simp;omega) ?_;intro v8 w8 Pb O9);obtain⟨wB,xS⟩:∃W,W=w7.alloc (.cells #[.int .u16 (m.way:Nat),.int .u32 (m.sum:Nat),.int .u32 (m.packed:Nat),.int .u32 (m.size:Nat),.string (bF m.name),.slice va m.packed vc] 49):=⟨_,rfl⟩
        have G2:wB.grownBy w8 (Value.slice a0 i c0).ownBlock:=(by rw[xS];exact O9);have uB:Same w7 wB:=(by rw[xS];exact(Kept.refl _ w7).alloc _);have hk8:Kept (λk=>(Value.slice a0 i c0).ownBlock=some k) wB w8:=(Kept.refl _ wB).grown G2 (λk e=>.inl e);have Ei:∀x,x<w2.heap.size->¬(Value.slice a0 i c0).ownBlock=some x:=λx hx e=>by have:=HR7.out.ge e;omega
        have HF:Hid (Pj w2 w8 fs o8 (cnt-(i+1)) pb rb (i+1) v8 (xs++[⟨m,va,m.packed,vc⟩]) (L++[⟨m,bb⟩]) P' R' ap' ar' cp' cr'):=hid (by
         refine⟨Pb,?_,by rw[List.length_append,HI.out.len];rfl,?_,?_,(Same.trans HK7.out uB).then hk8 Ei,by rw[HLF.out.2];exact HEQ7.out,HI.out.two,HFIT.out⟩
         ·refine((HI7.out.kept uB (λ_ _ f=>f)).kept hk8 Ei).snoc ?_;exact⟨rfl,(HTK.out.src.kept uB (λ_ _ _ f=>f)).kept hk8 (λx hx _=>Ei x hx),HTK.out.len.symm,HTK.out.byte,HM.out.2,HM.out.1,HTK.out.len,⟨_,HZ.out⟩,λe=>HTK.out.adr m.packed vc (by show Value.slice va m.packed vc=_;rw[show va=none from e])⟩
         ·refine(HC7.out.kept uB (λf=>f) (λ_ _ f=>f)).kept hk8 (λe=>?_) Ei;exact(HR7.out.off HC7.out.blk (by decide)) e
         ·refine(HRC7.out.kept uB (λf=>f) (λ_ _ f=>f)).kept hk8 (λe=>?_) Ei;exact(HR7.out.off HRC7.out.blk (by decide)) e)
        clear Pb O9 xS G2 uB hk8 Ei;go_wp2_with fail;go_roundg (gk-1)
        case measure=>omega
        case rel=>exact⟨i+1,_,_,_,_,_,_,_,_,by go_num,by omega,by omega,HF⟩
      ·have Eu:((at':Int)==(dz:Int))=false:=(by simp;omega);have HO:=aM w5 81;have HF:Hid (OpnA w2 w5 o8 (aG 81)):=hid (OpnA.bad (by rw[HEQ.out];exact IY HT.out HZ.out (by rw[<-HDZ.out];exact ha)) rfl (Same.trans HK4.out HK5.out));clear ha;go_wp2_with fail;refine HO.mono ?_;rintro e w6 ⟨rfl,hw6⟩;subst hw6;clear HO;unfold aG;go_wp2_with fail;exact⟨rfl,HF.out⟩
     ·have Qk:=Qk hz;subst Qk;have HF:Hid (OpnA w2 w5 o8 (aG ck)):=hid (OpnA.bad (by rw[HEQ.out,HCK.out];exact F7 HT.out (by rw[<-HCK.out];exact hz)) rfl (Same.trans HK4.out HK5.out));clear PV hk5 HCL hz S3 SJ Tt OJ OU;unfold aG;go_wp2_with fail;exact⟨rfl,HF.out⟩
   ·have rj:decide (i<cnt)=false:=(by simp;omega);obtain rfl:i=cnt:=(by omega);have HEQ:Hid (o8=if np=0/\nr=0 then .ok L else .error 81):=hid (by rw[HI.out.eq,Nat.sub_self,dW,HNP.out.1,HNP.out.2]);have p0:wr.cell? ⟨pb,0,none⟩=some (.slice ap np cp):=(by have h9:=HI.out.pie.blk.cell 0;rw[HNP.out.1];simpa using h9);have r0:wr.cell? ⟨rb,0,none⟩=some (.slice ar nr cr):=(by have h9:=HI.out.recs.blk.cell 0;rw[HNP.out.2];simpa using h9);by_cases yn:np=0
    ·have q1:((np:Int)==0)=true:=(by simp;omega);by_cases rk:nr=0
     ·have q2:((nr:Int)==0)=true:=(by simp;omega);have HO:=bi wr (.int .i64 81);have HE2:Hid (o8=.ok L):=hid (by rw[HEQ.out,if_pos ⟨yn,rk⟩]);clear yn rk;go_wp2_with fail;refine HO.mono ?_;rintro e w6 ⟨rfl,hw6⟩;subst hw6;clear HO;go_wp2_with fail;go_ret;exact OpnA.good HE2.out rfl HI.out.row HI.out.its HXL.out.symm re (by omega) HI.out.same
     ·have q2:((nr:Int)==0)=false:=(by simp;omega);have HO:=aM wr 81;have HF:Hid (OpnA w2 wr o8 (aG 81)):=hid (OpnA.bad (by rw[HEQ.out,if_neg (λh=>rk h.2)]) rfl HI.out.same);clear rk yn;go_wp2_with fail;refine HO.mono ?_;rintro e w6 ⟨rfl,hw6⟩;subst hw6;clear HO;unfold aG;go_wp2_with fail;exact⟨rfl,HF.out⟩
    ·have q1:((np:Int)==0)=false:=(by simp;omega);have HO:=aM wr 81;have HF:Hid (OpnA w2 wr o8 (aG 81)):=hid (OpnA.bad (by rw[HEQ.out,if_neg (λh=>yn h.1)]) rfl HI.out.same);clear yn;go_wp2_with fail;refine HO.mono ?_;rintro e w6 ⟨rfl,hw6⟩;subst hw6;clear HO;unfold aG;go_wp2_with fail;exact⟨rfl,HF.out⟩
def vK(D:List (List Nat×List Nat))(o:Except Nat (List (List Nat×List Nat))):Except Nat (List (List Nat×List Nat)):=match o with
 | .error e=>.error e
 | .ok r=>.ok (D++r)
theorem Gt{D:List (List Nat×List Nat)}{L:List It}{j k:Nat}{y:It}(h:L[j]? = some y)(hu:c8 y=.error k):vK D (ef (L.drop j))=.error k:=by have hj:=(List.getElem?_eq_some_iff.1 h).1;have e:=(List.getElem?_eq_some_iff.1 h).2;rw[List.drop_eq_getElem_cons hj,e,ef,hu];rfl
theorem DN{D:List (List Nat×List Nat)}{L:List It}{j:Nat}{y:It}{d:List Nat}(h:L[j]? = some y)(hu:c8 y=.ok d):vK D (ef (L.drop j))=vK (D++[(y.lab.name,d)]) (ef (L.drop (j+1))):=by
 have hj:=(List.getElem?_eq_some_iff.1 h).1;have e:=(List.getElem?_eq_some_iff.1 h).2;rw[List.drop_eq_getElem_cons hj,e,ef,hu];simp only;cases ef (L.drop (j+1)) with
 | error e=>rfl
 | ok r=>simp[vK]
def fS(p:List Nat×List Nat):En:=⟨bF p.1,bF p.2⟩
def AllA(w w':World)(o:Except Nat (List (List Nat×List Nat)))(e:Ending):Prop:=
 (∀k,o=.error k->e=aG k)/\(∀D,o=.ok D->∃a n c,e=.returned (.slice a n c)/\RowC w.heap.size 39 2 qH w' (.slice a n c) (D.map fS)/\n=D.length)/\Same w w'
theorem AllA.bad{w w':World}{o:Except Nat (List (List Nat×List Nat))}{e:Ending}{k:Nat}(h:o=.error k)(he:e=aG k)(hk:Same w w'):AllA w w' o e:=
 ⟨λn h'=>by rw[h]at h';simp only[Except.error.injEq]at h';subst h';exact he,λd h'=>(by rw[h]at h';cases h'),hk⟩
structure Sn(w wr:World)(L:List It)(i:Nat)(v:Value)(D:List (List Nat×List Nat)):Prop where
 row:RowC w.heap.size 39 2 qH wr v (D.map fS)
 len:D.length=i
 same:Same w wr
 eq:ef L=vK D (ef (L.drop i))
theorem zK(w:World)(y:En):aR (w.alloc (.cells #[.string y.n,.string y.d] 39)) ⟨w.heap.size,0,none⟩ ([y].flatMap qH):=by
 intro j u hj
 match j,hj with
 | 0,hj=>simp[qH]at hj;subst hj;simp[cL]
 | 1,hj=>simp[qH]at hj;subst hj;simp[cL]
 | j+2,hj=>simp[qH]at hj
theorem rD(N:Nat)(w:World)(a:Option Addr)(n c:Nat)(xs:List Itv)(L:List It)(hrow:RowC N 49 6 nh w (.slice a n c) xs)(Ii:Its N w xs L)(hn:n=xs.length)(h64:n≤64)
  (hU:∀(j:Nat) (x:Itv) (y:It) (wx:World),xs[j]? = some x->L[j]? = some y->Same w wx->Calls Tryz.prog 22 #[.agg (jE x.m (.slice x.a x.n x.c))] wx λe w'=>UnpZ wx w' (c8 y) e):
  Calls Tryz.prog 12 #[.slice a n c] w λe w'=>AllA w w' (ef L) e:=by
 have HU:Hid _:=hid hU;have HROW:Hid (RowC N 49 6 nh w (.slice a n c) xs):=hrow;have HITS:Hid (Its N w xs L):=Ii;have HN:Hid (n=xs.length/\n=L.length):=hid ⟨hn,by rw[hn];exact Ii.1⟩;clear hU hrow Ii hn;go_enter Tryz.func12,Tryz.ntmps12;go_wp2_with fail;go_loopg [3,8] n (λqq z3 z8 wr=>∃(i:Nat) (D:List (List Nat×List Nat)),z8=.int .i64 (i:Nat)/\i<=n/\n-i<=qq/\Hid (Sn w wr L i z3 D))
 case atStart=>exact⟨0,[],rfl,by omega,by omega,hid ⟨RowC.nil,rfl,Kept.refl _ _,by simp[vK];cases ef L<;>rfl⟩⟩
 case round=>
  obtain⟨i,D,rfl,yd,KV,HI⟩:=hrel;obtain⟨v0,tm⟩:∃v,v=u3:=⟨_,rfl⟩
  rw[<-tm]at HI;rw[<-tm];clear tm;obtain⟨a0,c0,tm,_⟩:=HI.out.row.shape;rw[List.length_map,HI.out.len]at tm;subst tm;by_cases hi:i<n
  ·have rj:decide (i<n)=true:=(by simp;omega);have hx:=List.getElem?_eq_getElem (l:=xs) (i:=i) (by have:=HN.out;omega);have hy:=List.getElem?_eq_getElem (l:=L) (i:=i) (by have:=HN.out;omega);obtain⟨x,LC⟩:∃x,x=xs[i]'(by have:=HN.out;omega):=⟨_,rfl⟩
   obtain⟨y,Oj⟩:∃y,y=L[i]'(by have:=HN.out;omega):=⟨_,rfl⟩
   rw[<-LC]at hx;rw[<-Oj]at hy;obtain⟨g,cap,hv,_,hc⟩:=HROW.out.at8 ub i (by have:=HN.out;omega);rw[<-LC]at hc;simp only[Value.slice.injEq]at hv;have fv:=hv.1;clear hv;subst fv;have qZ:∀k u,k<6->(nh x)[k]? = some u->wr.cell? ⟨g,i*6+k,none⟩=some u:=λk u h1 h2=>HI.out.same.cell ((hc k h1).trans h2) (λf=>f)
   have k0:=qZ 0 _ (by decide) rfl;have k1:=qZ 1 _ (by decide) rfl;have k2:=qZ 2 _ (by decide) rfl;have k3:=qZ 3 _ (by decide) rfl;have k4:=qZ 4 _ (by decide) rfl;have k5:=qZ 5 _ (by decide) rfl;rw[Nat.add_zero]at k0;have GY:IntKind.i64.wrap ((i:Int)+1)=((i+1:Nat):Int):=(by rw[IntKind.wrap_i64];omega);have i1:(0:Int)<=(i:Int):=(by omega);have i2:(i:Int)<(n:Int):=(by omega);have HY:Hid (L[i]? = some y):=hy;have HXL:Hid (x.m=y.lab):=hid (HITS.out.2 i x y hx hy).lab;obtain⟨wA,py⟩:∃W,W=wr.alloc (.cells (jE x.m (.slice x.a x.n x.c)) 49):=⟨_,rfl⟩
   obtain⟨xb,gW⟩:∃b,b=wr.heap.size:=⟨_,rfl⟩
   have HKA:Hid (Same wr wA):=hid (by rw[py];exact(Kept.refl _ wr).alloc _);have HXA:Hid (Blk wA xb (jE x.m (.slice x.a x.n x.c)) 49):=hid (by rw[py,gW];exact Blk.new wr _ _);have HC:Hid (∀wx,Same wA wx->Calls Tryz.prog 22 #[.agg (jE x.m (.slice x.a x.n x.c))] wx λe w'=>UnpZ wx w' (c8 y) e):=hid (λwx hk=>HU.out i x y wx hx hy (Same.trans HI.out.same (Same.trans HKA.out hk)));clear LC Oj hx hy hc qZ;unfold jE at py HC HXA;have q0:wA.cell? ⟨xb,0,none⟩=some (.int .u16 (x.m.way:Nat)):=HXA.out.cell 0;have q1:wA.cell? ⟨xb,1,none⟩=some (.int .u32 (x.m.sum:Nat)):=HXA.out.cell 1;have q2:wA.cell? ⟨xb,2,none⟩=some (.int .u32 (x.m.packed:Nat)):=HXA.out.cell 2;have q3:wA.cell? ⟨xb,3,none⟩=some (.int .u32 (x.m.size:Nat)):=HXA.out.cell 3;have q4:wA.cell? ⟨xb,4,none⟩=some (.string (bF x.m.name)):=HXA.out.cell 4;have q5:wA.cell? ⟨xb,5,none⟩=some (.slice x.a x.n x.c):=HXA.out.cell 5;cases hu:c8 y with
   | error k=>
    rw[hu]at HC;have HE:Hid (ef L=.error k):=hid (by rw[HI.out.eq];exact Gt HY.out hu);clear hu;go_wp2_with fail;rw[<-py,<-gW];clear py gW;go_region_dies
    all_goals
     refine(HC.out _ ((Kept.refl _ wA).drew)).mono ?_;intro e w4 h4;obtain rfl:=h4.2.1 k rfl;exact⟨rfl,AllA.bad HE.out rfl (Same.trans HI.out.same (Same.trans HKA.out (Same.trans ((Kept.refl _ wA).drew) h4.2.2)))⟩
   | ok d=>
    rw[hu]at HC;have HE:Hid (ef L=vK (D++[(y.lab.name,d)]) (ef (L.drop (i+1)))):=hid (by rw[HI.out.eq];exact DN HY.out hu);clear hu;go_wp2_with fail;rw[<-py,<-gW];clear py gW;have HSZ:Hid (w.heap.size<=wr.heap.size/\xb<wA.heap.size):=hid ⟨HI.out.same.size,HXA.out.lt⟩;have HOX:Hid ((Value.slice a0 i c0).ownBlock≠some xb):=hid ((HI.out.row.kept HKA.out (λ_ _ f=>f)).off HXA.out (by decide));go_region_held3 (λw'=>w'.cell? ⟨xb,0,none⟩=some (.int .u16 (x.m.way:Nat))/\w'.cell? ⟨xb,1,none⟩=some (.int .u32 (x.m.sum:Nat))/\w'.cell? ⟨xb,2,none⟩=some (.int .u32 (x.m.packed:Nat))/\w'.cell? ⟨xb,3,none⟩=some (.int .u32 (x.m.size:Nat))/\w'.cell? ⟨xb,4,none⟩=some (.string (bF x.m.name))/\w'.cell? ⟨xb,5,none⟩=some (.slice x.a x.n x.c))
     (first
      | (go_split_ands;exact⟨hk5.cell (by assumption) HOX.out,hk5.cell (by assumption) HOX.out,hk5.cell (by assumption) HOX.out,hk5.cell (by assumption) HOX.out,hk5.cell (by assumption) HOX.out,hk5.cell (by assumption) HOX.out⟩)
      | (go_split_ands;exact⟨hk4.cell (by assumption) (λf=>f),hk4.cell (by assumption) (λf=>f),hk4.cell (by assumption) (λf=>f),hk4.cell (by assumption) (λf=>f),hk4.cell (by assumption) (λf=>f),hk4.cell (by assumption) (λf=>f)⟩)
      | go_keep)
     (first
      | (go_at_call 22;refine(HC.out _ (by first | exact(Kept.refl _ _).drew | exact Kept.refl _ _ | exact(Kept.refl _ _).drewN _)).mono ?_;intro e w4 h4;obtain rfl:=h4.1 d rfl;have hk4:=h4.2.2;clear h4)
      | (have hw4:Same wA w4:=Same.trans ((Kept.refl _ wA).drew) hk4;refine ix qH 2 ny w.heap.size 24 39 (.agg #[.string ⟨#[]⟩,.string ⟨#[]⟩]) 32 Tryz.underlying24 Tryz.infoEntry rfl (by decide) (by rfl) (.tmp 12) (.tmp 19) (by rfl) (.slice a0 i c0) (D.map fS) (by rfl) (((HI.out.row.kept HKA.out (λ_ _ f=>f)).kept hw4 (λ_ _ f=>f)).kept (show Same _ _ from(Kept.refl _ _).alloc _) (λ_ _ f=>f)) ⟨w4.heap.size,0,none⟩ 1 1 [⟨bF x.m.name,bF d⟩] (by rfl) (by rfl) (zK w4 ⟨bF x.m.name,bF d⟩) (by rw[List.length_map,HI.out.len];simp;omega) (by have:=HSZ.out;have:=HKA.out.size;have:=hw4.size;simp;omega) ?_;intro v5 w5 hr5 d8;have hk5:Kept (λk=>(Value.slice a0 i c0).ownBlock=some k) (w4.alloc (.cells #[.string (bF x.m.name),.string (bF d)] 39)) w5:=(Kept.refl _ _).grown d8 (λk e=>.inl e);clear d8))
    all_goals
     have HF:Hid (Sn w w5 L (i+1) v5 (D++[(y.lab.name,d)])):=hid ⟨by rw[List.map_append];show RowC _ _ _ _ _ _ (D.map fS++[fS (y.lab.name,d)]);rw[<-HXL.out];exact hr5,by rw[List.length_append,HI.out.len];rfl,(Same.trans HI.out.same (Same.trans HKA.out (Same.trans ((Kept.refl _ wA).drew) (Same.trans hk4 (show Same w4 (w4.alloc (.cells #[.string (bF x.m.name),.string (bF d)] 39)) from(Kept.refl _ _).alloc _))))).then hk5 (λx hx e=>by have:=HI.out.row.ge e;omega),HE.out⟩;clear hr5 hk5 hk4;go_wp2_with fail;go_roundg (gk-1)
     case measure=>omega
     case rel=>exact⟨i+1,_,by go_num,by omega,by omega,HF⟩
  ·have rj:decide (i<n)=false:=(by simp;omega);obtain rfl:i=n:=(by omega);go_wp2_with fail;go_ret;have h9:=HI.out.eq;rw[List.drop_eq_nil_of_le (by have:=HN.out;omega)]at h9;refine⟨λk e=>(by rw[h9]at e;cases e),λD' e=>?_,HI.out.same⟩;rw[h9]at e;simp only[vK,ef,List.append_nil,Except.ok.injEq]at e;subst e;exact⟨_,_,_,rfl,HI.out.row,HI.out.len.symm⟩
theorem Bi{r:List Nat}{p n f:Nat}(h:iy r p=.ok (n,f)):f<=p/\n<=64:=by
 unfold iy at h;split at h
 ·cases h
 ·split at h
  ·cases h
  ·split at h
   ·cases h
   ·simp only[Except.ok.injEq,Prod.mk.injEq]at h;omega
theorem xu(w:World)(a:Option Addr)(n c:Nat)(bs:List Nat)(hs:Src w (fun k=>k<w.heap.size) (.slice a n c) bs)(hL:n=bs.length)(hb:∀x∈bs,x<256)(cj:n≤c)(hn:n≤100000000)(hx:Mxl w):
  Calls Tryz.prog 13 #[.slice a n c] w λe w'=>OpnA w w' (fU bs) e:=by
 by_cases h1:1048576<n
 ·refine(C7 w a n c h1 hn).mono ?_;rintro e w' ⟨he,hk⟩;exact OpnA.bad (by unfold fU;rw[if_pos (by omega)]) he hk
 ·by_cases h2:n<22
  ·refine(yL w a n c h2).mono ?_;rintro e w' ⟨he,hk⟩;exact OpnA.bad (by unfold fU;rw[if_neg (by omega),if_pos (by omega)]) he hk
  ·obtain⟨b,o,ha⟩:∃b o,a=some ⟨b,o,none⟩:=by
    obtain⟨ao,cap,e,h9⟩:=id hs;simp only[Value.slice.injEq]at e;obtain⟨b,o,e4,_⟩:=h9 (λe=>by rw[e]at hL;simp at hL;omega);exact⟨b,o,by rw[e.1];exact e4⟩
   subst ha;have e1:fU bs=match iy (bs.drop (n-22)) (n-22) with
     | .error e=>.error e
     | .ok x=>dW x.2 x.1 (bs.take x.2) ((bs.take (n-22)).drop x.2) []:=by
    unfold fU;rw[if_neg (by omega),if_neg (by omega),hL];rfl
   cases he:iy (bs.drop (n-22)) (n-22) with
   | error x=>
    rw[he]at e1;refine(Fc w b o c bs n hL hs hb cj (by omega) (by omega) x he).mono ?_;rintro e w' ⟨he,hk⟩;exact OpnA.bad e1 he hk
   | ok x=>
    obtain⟨cnt,fs⟩:=x;rw[he]at e1;obtain⟨h3,h4⟩:=Bi he;rw[e1];exact C8 w b o c bs n hL hs hb cj (by omega) (by omega) cnt fs he h3 h4 hx
theorem Cs{N:Nat}{w:World}{x:Itv}{y:It}(h:ItAt N w x y)(hz:y.lab.way=0):Calls Tryz.prog 22 #[.agg (jE x.m (.slice x.a x.n x.c))] w λe w'=>UnpZ w w' (c8 y) e:=by
 rw[h.lab];obtain⟨a,ha⟩:=h.ck;have hl:y.bytes.length<=100000:=by have:=(fZ ha).2.2.2.2.1;have:=h.pk;omega
 by_cases hq:more 0 y.bytes=y.lab.sum
 ·have e:c8 y=.ok y.bytes:=(by unfold c8;rw[if_neg (by omega),if_pos hq]);rw[e];exact ui w y.lab x.a x.n x.c _ y.bytes h.src h.byte hl hz hq
 ·have e:c8 y=.error 83:=(by unfold c8;rw[if_neg (by omega),if_neg hq]);rw[e];exact xN w y.lab x.a x.n x.c _ y.bytes h.src h.byte hl hz hq
def UnpOk(w:World)(L:List It):Prop:=∀(N:Nat) (wx:World) (x:Itv) (y:It),y∈L->ItAt N wx x y->Same w wx->Calls Tryz.prog 22 #[.agg (jE x.m (.slice x.a x.n x.c))] wx λe w'=>UnpZ wx w' (c8 y) e
noncomputable def C3 (bs:List Nat):Except Nat (List (List Nat×List Nat)):=match fU bs with
 | .error e=>.error e
 | .ok L=>ef L
def Ub(w w':World)(o:Except Nat (List (List Nat×List Nat)))(e:Ending):Prop:=
 (∀k,o=.error k->e=.returned (.tuple #[.slice none 0 0,.int .i64 (k:Nat)]))/\(∀D,o=.ok D->∃a n c,e=.returned (.tuple #[.slice a n c,.int .i64 0])/\RowC w.heap.size 39 2 qH w' (.slice a n c) (D.map fS)/\n=D.length)/\Same w w'
theorem qF(w:World)(a:Option Addr)(n c:Nat)(bs:List Nat)(hs:Src w (fun k=>k<w.heap.size) (.slice a n c) bs)(hL:n=bs.length)(hb:∀x∈bs,x<256)(cj:n≤c)(hn:n≤100000000)(hx:Mxl w)(hU:∀L,fU bs=.ok L→UnpOk w L):
  Calls Tryz.prog 5 #[.slice a n c] w λe w'=>Ub w w' (C3 bs) e:=by
 have MF:∀(fn:Fn) (first cap:Array Value) (w:World),(Instr.makeFunc fn first cap).run Tryz.prog w=.ok (.func fn first cap) w:=λ_ _ _ _=>rfl
 obtain⟨W1,hW1⟩:∃W,W=w.alloc (.cells #[.int .i64 0] 25):=⟨_,rfl⟩
 obtain⟨eb,Kn⟩:∃b,b=w.heap.size:=⟨_,rfl⟩
 have HK1:Hid (Same w W1):=hid (by rw[hW1];exact(Kept.refl _ w).alloc _);have HB1:Hid (Blk W1 eb #[.int .i64 0] 25):=hid (by rw[hW1,Kn];exact Blk.new w _ _);have HO:=xu W1 a n c bs ((hs.kept HK1.out (λ_ _ _ f=>f)).mono (λk hk=>Nat.lt_of_lt_of_le hk HK1.out.size)) hL hb cj hn (hx.kept HK1.out (λf=>f));have HEB:Hid (eb=w.heap.size):=Kn;have HU:Hid (∀L,fU bs=.ok L->UnpOk w L):=hU;clear hs hL hb cj hx hU;go_enter_defers Tryz.func5,Tryz.ntmps5;go_wp2_with fail;rw[<-hW1,<-Kn];clear hW1 Kn;refine HO.mono ?_;intro e w1 h1;obtain⟨kh,kg,hk1⟩:=h1;have HB2:Hid (Blk w1 eb #[.int .i64 0] 25):=hid (HB1.out.kept hk1 (λf=>f));have HK2:Hid (Same w w1):=hid (Same.trans HK1.out hk1);cases ho:fU bs with
 | error k=>
  obtain rfl:=kh k ho;have HE:Hid (C3 bs=.error k):=hid (by unfold C3;rw[ho]);clear hk1 HO kh kg ho;unfold aG;go_wp2_with fail;have c0:w1.cell? ⟨eb,0,none⟩=some (.int .i64 0):=HB2.out.cell 0;have z0:=HB2.out.frozen 0;have d0:(w1.setCell ⟨eb,0,none⟩ (.int .i64 (k:Nat))).cell? ⟨eb,0,none⟩=some (.int .i64 (k:Nat)):=(by have:=(HB2.out.set 0 (.int .i64 (k:Nat))).cell 0;simpa using this);have HKF:Hid (Same w (w1.setCell ⟨eb,0,none⟩ (.int .i64 (k:Nat)))):=hid (HK2.out.setCell _ _ (.inr (by have h9:=HEB.out;show w.heap.size<=eb;omega)));refine leaves_cons (f:=10) (args:=#[.pointer (some ⟨eb,0,none⟩)]) (by simp) (by simp[go_sem]) ?_;refine(iI eb 0 k w1 c0 z0).mono ?_;rintro e u' w'' ⟨rfl,rfl,rfl⟩;simp[Leaves,settle,results,Tryz.results5,go_sem,d0];exact⟨λk' e=>by rw[HE.out]at e;simp only[Except.error.injEq]at e;subst e;rfl,λD e=>(by rw[HE.out]at e;cases e),HKF.out⟩
 | ok L=>
  obtain⟨a1,n1,c1,xs,rfl,hr1,yd,hn1,eH,h64⟩:=kg L ho;have HE:Hid (C3 bs=ef L):=hid (by unfold C3;rw[ho]);have SN:=HU.out L ho;have HA:=rD W1.heap.size w1 a1 n1 c1 xs L hr1 yd hn1 h64 (λj x y wx hx hy hk=>SN W1.heap.size wx x y (List.mem_of_getElem? hy) ((yd.2 j x y hx hy).kept hk (λ_ _ f=>f)) (Same.trans HK2.out hk));clear hk1 HO kh kg ho hr1 yd hn1 eH SN;go_wp2_with fail;refine HA.mono ?_;intro e w2 h2;obtain⟨kh,kg,hk2⟩:=h2;have HB3:Hid (Blk w2 eb #[.int .i64 0] 25):=hid (HB2.out.kept hk2 (λf=>f));have HK3:Hid (Same w w2):=hid (Same.trans HK2.out hk2);have c0:w2.cell? ⟨eb,0,none⟩=some (.int .i64 0):=HB3.out.cell 0;have z0:=HB3.out.frozen 0;cases hq:ef L with
  | error k=>
   obtain rfl:=kh k hq;have HE:Hid (C3 bs=.error k):=hid (by rw[HE.out,hq]);clear kh kg hk2 hq HA;unfold aG;go_wp2_with fail;have d0:(w2.setCell ⟨eb,0,none⟩ (.int .i64 (k:Nat))).cell? ⟨eb,0,none⟩=some (.int .i64 (k:Nat)):=(by have:=(HB3.out.set 0 (.int .i64 (k:Nat))).cell 0;simpa using this);have HKF:Hid (Same w (w2.setCell ⟨eb,0,none⟩ (.int .i64 (k:Nat)))):=hid (HK3.out.setCell _ _ (.inr (by have h9:=HEB.out;show w.heap.size<=eb;omega)));refine leaves_cons (f:=10) (args:=#[.pointer (some ⟨eb,0,none⟩)]) (by simp) (by simp[go_sem]) ?_;refine(iI eb 0 k w2 c0 z0).mono ?_;rintro e u' w'' ⟨rfl,rfl,rfl⟩;simp[Leaves,settle,results,Tryz.results5,go_sem,d0];exact⟨λk' e=>by rw[HE.out]at e;simp only[Except.error.injEq]at e;subst e;rfl,λD e=>(by rw[HE.out]at e;cases e),HKF.out⟩
  | ok D=>
   obtain⟨a2,n2,c2,rfl,hr2,hn2⟩:=kg D hq;have HE:Hid (C3 bs=.ok D):=hid (by rw[HE.out,hq]);have HR2:Hid (RowC w.heap.size 39 2 qH w2 (.slice a2 n2 c2) (D.map fS)/\n2=D.length):=hid ⟨hr2.base HK2.out.size,hn2⟩;clear kh kg hk2 hq HA hr2 hn2;go_wp2_with fail;obtain⟨w3,hw3⟩:∃W,W=w2.setCell ⟨eb,0,none⟩ (.int .i64 0):=⟨_,rfl⟩
   have hb3:Blk w3 eb #[.int .i64 0] 25:=(by rw[hw3];have:=HB3.out.set 0 (.int .i64 0);simpa using this);have HKF:Hid (Same w (w3.setCell ⟨eb,0,none⟩ (.int .i64 0))):=hid (by rw[hw3];exact(HK3.out.setCell _ _ (.inr (by have h9:=HEB.out;show w.heap.size<=eb;omega))).setCell _ _ (.inr (by have h9:=HEB.out;show w.heap.size<=eb;omega)));have hks:Kept (·=eb) w2 (w3.setCell ⟨eb,0,none⟩ (.int .i64 0)):=(by rw[hw3];exact((Kept.refl (·=eb) w2).setCell _ _ (.inl rfl)).setCell _ _ (.inl rfl));have HRF:Hid (RowC w.heap.size 39 2 qH (w3.setCell ⟨eb,0,none⟩ (.int .i64 0)) (.slice a2 n2 c2) (D.map fS)):=hid (HR2.out.1.kept hks (λj e f=>HR2.out.1.off HB3.out (by decide) (by rw[e,f])));have d0:(w3.setCell ⟨eb,0,none⟩ (.int .i64 0)).cell? ⟨eb,0,none⟩=some (.int .i64 0):=(by have:=(hb3.set 0 (.int .i64 0)).cell 0;simpa using this);rw[<-hw3];refine leaves_cons (f:=10) (args:=#[.pointer (some ⟨eb,0,none⟩)]) (by simp) (by simp[go_sem]) ?_;refine(uM eb 0 w3 (hb3.cell 0) (hb3.frozen 0)).mono ?_;rintro e u' w'' ⟨rfl,rfl,rfl⟩;simp[Leaves,settle,results,Tryz.results5,go_sem,d0];exact⟨λk' e=>(by rw[HE.out]at e;cases e),λD' e=>by rw[HE.out]at e;simp only[Except.ok.injEq]at e;subst e;exact⟨a2,n2,c2,rfl,HRF.out,HR2.out.2⟩,HKF.out⟩
theorem Ents.ofRow{B:Nat}{w:World}{a:Option Addr}{n c:Nat}{ys:List En}(h:RowC B 39 2 qH w (.slice a n c) ys)(hn:n=ys.length):Ents w (λ_=>True) a n (λj=>ys.getD j default):=by
 subst hn;intro j hj;obtain⟨g,cap,hv,_,hc⟩:=h.at8 ny j hj;simp only[Value.slice.injEq]at hv;have e:ys.getD j default=ys[j]:=by rw[List.getD_eq_getElem?_getD,List.getElem?_eq_getElem hj];rfl
 simp only[e];refine⟨g,0,hv.1,trivial,?_,?_⟩
 ·have:=hc 0 (by decide);simpa[qH]using this
 ·have:=hc 1 (by decide);simpa[qH]using this
def uL(m:Mk):List Value:=[.string (bF m.name),.int .i64 (m.size:Nat),.int .i64 (m.packed:Nat),.int .u32 (m.sum:Nat),.int .i64 (m.way:Nat)]
theorem zX:dI uL 5:=⟨λ_=>rfl,λx u hu=>by simp[uL]at hu;rcases hu with rfl | rfl | rfl | rfl | rfl<;>rfl,by decide⟩
theorem Tryz.infoInfo:(Tryz.prog.info? 37).map (λi=>(i.zero,i.size,i.bytes))=some (some (.agg #[.string ⟨#[]⟩,.int .i64 0,.int .i64 0,.int .u32 0,.int .i64 0]),5,48):=by kernel_rfl
theorem zq(w:World)(m:Mk):aR (w.alloc (.cells #[.string (bF m.name),.int .i64 (m.size:Nat),.int .i64 (m.packed:Nat),.int .u32 (m.sum:Nat),.int .i64 (m.way:Nat)] 37)) ⟨w.heap.size,0,none⟩ ([m].flatMap uL):=by
 intro j u hj
 match j,hj with
 | 0,hj=>simp[uL]at hj;subst hj;simp[cL]
 | 1,hj=>simp[uL]at hj;subst hj;simp[cL]
 | 2,hj=>simp[uL]at hj;subst hj;simp[cL]
 | 3,hj=>simp[uL]at hj;subst hj;simp[cL]
 | 4,hj=>simp[uL]at hj;subst hj;simp[cL]
 | j+5,hj=>simp[uL]at hj
def Ua(w w':World)(o:Except Nat (List It))(e:Ending):Prop:=
 (∀k,o=.error k->e=.returned (.tuple #[.slice none 0 0,.int .i64 (k:Nat)]))/\(∀L,o=.ok L->∃a n c,e=.returned (.tuple #[.slice a n c,.int .i64 0])/\RowC w.heap.size 37 5 uL w' (.slice a n c) (L.map (·.lab))/\n=L.length)/\Same w w'
structure Sp(w wr:World)(eb:Nat)(L:List It)(i:Nat)(v:Value):Prop where
 row:RowC w.heap.size 37 5 uL wr v ((L.take i).map (·.lab))
 blk:Blk wr eb #[.int .i64 0] 25
 same:Same w wr
theorem vt(w:World)(a:Option Addr)(n c:Nat)(bs:List Nat)(hs:Src w (fun k=>k<w.heap.size) (.slice a n c) bs)(hL:n=bs.length)(hb:∀x∈bs,x<256)(cj:n≤c)(hn:n≤100000000)(hx:Mxl w):
  Calls Tryz.prog 6 #[.slice a n c] w λe w'=>Ua w w' (fU bs) e:=by
 have MF:∀(fn:Fn) (first cap:Array Value) (w:World),(Instr.makeFunc fn first cap).run Tryz.prog w=.ok (.func fn first cap) w:=λ_ _ _ _=>rfl
 obtain⟨W1,hW1⟩:∃W,W=w.alloc (.cells #[.int .i64 0] 25):=⟨_,rfl⟩
 obtain⟨eb,Kn⟩:∃b,b=w.heap.size:=⟨_,rfl⟩
 have HK1:Hid (Same w W1):=hid (by rw[hW1];exact(Kept.refl _ w).alloc _);have HB1:Hid (Blk W1 eb #[.int .i64 0] 25):=hid (by rw[hW1,Kn];exact Blk.new w _ _);have HO:=xu W1 a n c bs ((hs.kept HK1.out (λ_ _ _ f=>f)).mono (λk hk=>Nat.lt_of_lt_of_le hk HK1.out.size)) hL hb cj hn (hx.kept HK1.out (λf=>f));have HEB:Hid (eb=w.heap.size):=Kn;clear hs hL hb cj hx;go_enter_defers Tryz.func6,Tryz.ntmps6;go_wp2_with fail;rw[<-hW1,<-Kn];clear hW1 Kn;refine HO.mono ?_;intro e w1 h1;obtain⟨kh,kg,hk1⟩:=h1;have HB2:Hid (Blk w1 eb #[.int .i64 0] 25):=hid (HB1.out.kept hk1 (λf=>f));have HK2:Hid (Same w w1):=hid (Same.trans HK1.out hk1);cases ho:fU bs with
 | error k=>
  obtain rfl:=kh k ho;have HE:Hid (fU bs=.error k):=ho;clear hk1 HO kh kg ho;unfold aG;go_wp2_with fail;have c0:w1.cell? ⟨eb,0,none⟩=some (.int .i64 0):=HB2.out.cell 0;have z0:=HB2.out.frozen 0;have d0:(w1.setCell ⟨eb,0,none⟩ (.int .i64 (k:Nat))).cell? ⟨eb,0,none⟩=some (.int .i64 (k:Nat)):=(by have:=(HB2.out.set 0 (.int .i64 (k:Nat))).cell 0;simpa using this);have HKF:Hid (Same w (w1.setCell ⟨eb,0,none⟩ (.int .i64 (k:Nat)))):=hid (HK2.out.setCell _ _ (.inr (by have h9:=HEB.out;show w.heap.size<=eb;omega)));refine leaves_cons (f:=14) (args:=#[.pointer (some ⟨eb,0,none⟩)]) (by simp) (by simp[go_sem]) ?_;refine(nY eb 0 k w1 c0 z0).mono ?_;rintro e u' w'' ⟨rfl,rfl,rfl⟩;simp[Leaves,settle,results,Tryz.results6,go_sem,d0];exact⟨λk' e=>by rw[HE.out]at e;simp only[Except.error.injEq]at e;subst e;rfl,λD e=>(by rw[HE.out]at e;cases e),HKF.out⟩
 | ok L=>
  obtain⟨a1,n1,c1,xs,rfl,hr1,yd,hn1,eH,h64⟩:=kg L ho;have HE:Hid (fU bs=.ok L):=ho;have HR1:Hid (RowC W1.heap.size 49 6 nh w1 (.slice a1 n1 c1) xs):=hr1;have HI1:Hid (Its W1.heap.size w1 xs L):=yd;have HN:Hid (n1=xs.length/\n1=L.length):=hid ⟨hn1,by rw[hn1];exact yd.1⟩;clear hk1 HO kh kg ho hr1 yd hn1 eH;go_wp2_with fail;go_loopg [2,10] n1 (λqq z2 z10 wr=>∃(i:Nat),z10=.int .i64 (i:Nat)/\i<=n1/\n1-i<=qq/\Hid (Sp w1 wr eb L i z2))
  case atStart=>exact⟨0,rfl,by omega,by omega,hid ⟨RowC.nil,HB2.out,Kept.refl _ _⟩⟩
  case round=>
   obtain⟨i,rfl,yd,KV,HI⟩:=hrel;obtain⟨v0,tm⟩:∃v,v=u2:=⟨_,rfl⟩
   rw[<-tm]at HI;rw[<-tm];clear tm;obtain⟨a0,c0,tm,_⟩:=HI.out.row.shape;rw[List.length_map,List.length_take,Nat.min_eq_left (by have:=HN.out;omega)]at tm;subst tm;by_cases hi:i<n1
   ·have rj:decide (i<n1)=true:=(by simp;omega);have hx:=List.getElem?_eq_getElem (l:=xs) (i:=i) (by have:=HN.out;omega);have hy:=List.getElem?_eq_getElem (l:=L) (i:=i) (by have:=HN.out;omega);obtain⟨x,LC⟩:∃x,x=xs[i]'(by have:=HN.out;omega):=⟨_,rfl⟩
    obtain⟨y,Oj⟩:∃y,y=L[i]'(by have:=HN.out;omega):=⟨_,rfl⟩
    rw[<-LC]at hx;rw[<-Oj]at hy;obtain⟨g,cap,hv,_,hc⟩:=HR1.out.at8 ub i (by have:=HN.out;omega);rw[<-LC]at hc;simp only[Value.slice.injEq]at hv;have fv:=hv.1;clear hv;subst fv;have qZ:∀k u,k<6->(nh x)[k]? = some u->wr.cell? ⟨g,i*6+k,none⟩=some u:=λk u h1 h2=>HI.out.same.cell ((hc k h1).trans h2) (λf=>f)
    have k0:=qZ 0 _ (by decide) rfl;have k1:=qZ 1 _ (by decide) rfl;have k2:=qZ 2 _ (by decide) rfl;have k3:=qZ 3 _ (by decide) rfl;have k4:=qZ 4 _ (by decide) rfl;have k5:=qZ 5 _ (by decide) rfl;rw[Nat.add_zero]at k0;have GY:IntKind.i64.wrap ((i:Int)+1)=((i+1:Nat):Int):=(by rw[IntKind.wrap_i64];omega);have i1:(0:Int)<=(i:Int):=(by omega);have i2:(i:Int)<(n1:Int):=(by omega);have HAT:=HI1.out.2 i x y hx hy;have HXL:Hid (x.m=y.lab/\L[i]? = some y):=hid ⟨HAT.lab,hy⟩;obtain⟨wA,py⟩:∃W,W=wr.alloc (.cells (jE x.m (.slice x.a x.n x.c)) 49):=⟨_,rfl⟩
    obtain⟨xb,gW⟩:∃b,b=wr.heap.size:=⟨_,rfl⟩
    have HKA:Hid (Same wr wA):=hid (by rw[py];exact(Kept.refl _ wr).alloc _);have HXA:Hid (Blk wA xb (jE x.m (.slice x.a x.n x.c)) 49):=hid (by rw[py,gW];exact Blk.new wr _ _);have HC:=EL wA x.m (.slice x.a x.n x.c) (by rw[HAT.lab];exact HAT.ok);clear LC Oj hx hy hc qZ HAT;unfold jE at py HC HXA;have q0:wA.cell? ⟨xb,0,none⟩=some (.int .u16 (x.m.way:Nat)):=HXA.out.cell 0;have q1:wA.cell? ⟨xb,1,none⟩=some (.int .u32 (x.m.sum:Nat)):=HXA.out.cell 1;have q2:wA.cell? ⟨xb,2,none⟩=some (.int .u32 (x.m.packed:Nat)):=HXA.out.cell 2;have q3:wA.cell? ⟨xb,3,none⟩=some (.int .u32 (x.m.size:Nat)):=HXA.out.cell 3;have q4:wA.cell? ⟨xb,4,none⟩=some (.string (bF x.m.name)):=HXA.out.cell 4;have q5:wA.cell? ⟨xb,5,none⟩=some (.slice x.a x.n x.c):=HXA.out.cell 5;go_wp2_with fail;rw[<-py,<-gW];clear py gW;refine HC.mono ?_;rintro e w4 ⟨rfl,hk4⟩;have HK4:Hid (Same wr w4):=hid (Same.trans HKA.out hk4);have HR4:Hid (RowC w1.heap.size 37 5 uL w4 (.slice a0 i c0) ((L.take i).map (·.lab))):=hid (HI.out.row.kept HK4.out (λ_ _ f=>f));clear hk4 HC q0 q1 q2 q3 q4 q5 k0 k1 k2 k3 k4 k5;go_wp2_with (at_builtin;refine dR _ uL 5 zX (by decide) w1.heap.size 28 37 (.agg #[.string ⟨#[]⟩,.int .i64 0,.int .i64 0,.int .u32 0,.int .i64 0]) 48 Tryz.underlying28 Tryz.infoInfo rfl (by decide) rfl (.tmp 14) (.tmp 17) rfl (.slice a0 i c0) ((L.take i).map (·.lab)) rfl (HR4.out.kept (show Same _ _ from(Kept.refl _ _).alloc _) (λ_ _ f=>f)) ⟨w4.heap.size,0,none⟩ 1 1 [x.m] rfl rfl (zq w4 x.m) (by rw[List.length_map,List.length_take];simp;omega) (by have:=HI.out.same.size;have:=HK4.out.size;simp;omega) ?_;intro v8 w8 Pb O9);obtain⟨wB,xS⟩:∃W,W=w4.alloc (.cells #[.string (bF x.m.name),.int .i64 (x.m.size:Nat),.int .i64 (x.m.packed:Nat),.int .u32 (x.m.sum:Nat),.int .i64 (x.m.way:Nat)] 37):=⟨_,rfl⟩
    have G2:wB.grownBy w8 (Value.slice a0 i c0).ownBlock:=(by rw[xS];exact O9);have uB:Same w4 wB:=(by rw[xS];exact(Kept.refl _ w4).alloc _);have hk8:Kept (λk=>(Value.slice a0 i c0).ownBlock=some k) wB w8:=(Kept.refl _ wB).grown G2 (λk e=>.inl e);have HF:Hid (Sp w1 w8 eb L (i+1) v8):=hid (by
     refine⟨?_,?_,((Same.trans HI.out.same (Same.trans HK4.out uB)).then hk8 (λk hk e=>by have:=HR4.out.ge e;omega))⟩
     ·rw[List.take_add_one,HXL.out.2,List.map_append];show RowC _ _ _ _ _ _ ((L.take i).map (·.lab)++[y.lab]);rw[<-HXL.out.1];exact Pb
     ·have hb4:=(HI.out.blk.kept HK4.out (λf=>f)).kept uB (λf=>f);exact hb4.kept hk8 (λe=>(HR4.out.kept uB (λ_ _ f=>f)).off hb4 (by decide) e))
    clear Pb O9 xS G2 uB hk8;go_wp2_with fail;go_roundg (gk-1)
    case measure=>omega
    case rel=>exact⟨i+1,by go_num,by omega,by omega,HF⟩
   ·have rj:decide (i<n1)=false:=(by simp;omega);obtain rfl:i=n1:=(by omega);have HR2:Hid (RowC w.heap.size 37 5 uL wr (.slice a0 i c0) (L.map (·.lab))):=hid (by have h9:=HI.out.row;rw[List.take_of_length_le (by have:=HN.out;omega)]at h9;exact h9.base HK2.out.size);have HB3:Hid (Blk wr eb #[.int .i64 0] 25):=hid HI.out.blk;have XE:wr.cell? ⟨eb,0,none⟩=some (.int .i64 0):=HB3.out.cell 0;have z0:=HB3.out.frozen 0;go_wp2_with fail;obtain⟨w3,hw3⟩:∃W,W=wr.setCell ⟨eb,0,none⟩ (.int .i64 0):=⟨_,rfl⟩
    have hb3:Blk w3 eb #[.int .i64 0] 25:=(by rw[hw3];have:=HB3.out.set 0 (.int .i64 0);simpa using this);have HKF:Hid (Same w (w3.setCell ⟨eb,0,none⟩ (.int .i64 0))):=hid (by rw[hw3];exact((Same.trans HK2.out HI.out.same).setCell _ _ (.inr (by have h9:=HEB.out;show w.heap.size<=eb;omega))).setCell _ _ (.inr (by have h9:=HEB.out;show w.heap.size<=eb;omega)));have hks:Kept (·=eb) wr (w3.setCell ⟨eb,0,none⟩ (.int .i64 0)):=(by rw[hw3];exact((Kept.refl (·=eb) wr).setCell _ _ (.inl rfl)).setCell _ _ (.inl rfl));have HRF:Hid (RowC w.heap.size 37 5 uL (w3.setCell ⟨eb,0,none⟩ (.int .i64 0)) (.slice a0 i c0) (L.map (·.lab))):=hid (HR2.out.kept hks (λj e f=>HR2.out.off HB3.out (by decide) (by rw[e,f])));have d0:(w3.setCell ⟨eb,0,none⟩ (.int .i64 0)).cell? ⟨eb,0,none⟩=some (.int .i64 0):=(by have:=(hb3.set 0 (.int .i64 0)).cell 0;simpa using this);rw[<-hw3];refine leaves_cons (f:=14) (args:=#[.pointer (some ⟨eb,0,none⟩)]) (by simp) (by simp[go_sem]) ?_;refine(vG eb 0 w3 (hb3.cell 0) (hb3.frozen 0)).mono ?_;rintro e u' w'' ⟨rfl,rfl,rfl⟩;simp[Leaves,settle,results,Tryz.results6,go_sem,d0];exact⟨λk' e=>(by rw[HE.out]at e;cases e),λD' e=>by rw[HE.out]at e;simp only[Except.ok.injEq]at e;subst e;exact⟨a0,_,_,rfl,HRF.out,HN.out.2⟩,HKF.out⟩
theorem Row.low8{w:World}{v:Value}{bs:List Nat}(h:Row w v bs):Src w (λk=>k<w.heap.size) v bs:=(Src.ofRow h).mono (λ_ e=>(World.ownsRow.lt h _ e).2)
theorem Row.shape8{w:World}{v:Value}{bs:List Nat}(h:Row w v bs):∃a c,v=.slice a bs.length c/\bs.length<=c/\(bs≠[]->∃g,a=some ⟨g,0,none⟩/\∀j (hj:j<bs.length),w.cell? ⟨g,j,none⟩=some (.int .u8 (bs[j]:Nat))):=by
 obtain⟨ao,cap,e,hc⟩:=Src.ofRow h;have h2:=h.2;rcases h2 with⟨e2,h3⟩ | ⟨g,eG,cur,e2,_,_,h4,_⟩
 ·refine⟨none,0,by rw[e2,h3],by omega,λhb=>absurd (List.eq_nil_of_length_eq_zero h3) hb⟩
 ·refine⟨some ⟨g,0,none⟩,eG,e2,h4,λhb=>⟨g,rfl,λj hj=>?_⟩⟩;obtain⟨b,o,e5,_,h6⟩:=hc hb;rw[e2]at e;simp only[Value.slice.injEq]at e;rw[e5]at e;simp only[Option.some.injEq,Addr.mk.injEq,and_true]at e;obtain⟨⟨rfl,rfl⟩,_⟩:=e;have:=h6 j hj;simpa using this
theorem dw(v n:Nat):∀b∈aQ v n,b<256:=by
 induction n generalizing v with
 | zero=>intro b hb;simp[aQ]at hb
 | succ n ih=>
  intro b hb;rw[aQ]at hb;rcases List.mem_append.1 hb with hb | hb
  ·exact ih _ b hb
  ·simp only[List.mem_cons,List.not_mem_nil,or_false]at hb;omega
theorem sJ(m:Mk):∀b∈gX m,b<256:=by intro b hb;unfold gX at hb;simp only[List.mem_append]at hb;rcases hb with h | h | h | h | h | h | h | h | h | h<;>exact dw _ _ b h
theorem DY{L:List It}(h:∀x∈L,(∀b∈x.lab.name,b<256)/\∀b∈x.bytes,b<256):∀b∈ey L,b<256:=by
 have hp:∀b∈bK L,b<256:=by
  intro b hb;obtain⟨x,hx,hb⟩:=List.mem_flatMap.1 hb;unfold mB jC at hb;simp only[List.mem_append]at hb;rcases hb with(h1 | h1 | h1) | h1
  ·exact dw _ _ b h1
  ·exact sJ _ b h1
  ·exact(h x hx).1 b h1
  ·exact(h x hx).2 b h1
 have hr:∀(at':Nat) (L:List It),(∀x∈L,(∀b∈x.lab.name,b<256)/\∀b∈x.bytes,b<256)->∀b∈cG at' L,b<256:=by
  intro at' L
  induction L generalizing at' with
  | nil=>intro _ b hb;simp[cG]at hb
  | cons x r ih=>
   intro h b hb;rw[cG]at hb;rcases List.mem_append.1 hb with hb | hb
   ·unfold kO at hb;simp only[List.mem_append]at hb;rcases hb with h1 | h1 | h1 | h1 | h1 | h1 | h1 | h1 | h1
    ·exact dw _ _ b h1
    ·exact dw _ _ b h1
    ·exact sJ _ b h1
    ·exact dw _ _ b h1
    ·exact dw _ _ b h1
    ·exact dw _ _ b h1
    ·exact dw _ _ b h1
    ·exact dw _ _ b h1
    ·exact(h x (by simp)).1 b h1
   ·exact ih _ (λy hy=>h y (by simp[hy])) b hb
 intro b hb;unfold ey at hb;simp only[List.mem_append]at hb;rcases hb with h1 | h1 | h1
 ·exact hp b h1
 ·exact hr 0 L h b h1
 ·unfold lM at h1;simp only[List.mem_append]at h1;rcases h1 with h | h | h | h | h | h | h | h<;>exact dw _ _ b h
theorem C9{data bs:List Nat}(h:PDef data bs)(hb:∀b∈data,b<256)(hl:data.length<=16384):∀b∈bs,b<256:=by
 obtain⟨x2,x3,rfl,h2,h3⟩:=h;have hs:∀b∈bH data,b<256:=by
  intro b hx;unfold bH at hx;simp only[List.mem_append,List.mem_cons,List.not_mem_nil,or_false]at hx;rcases hx with(rfl | rfl | rfl | rfl | rfl) | h
  ·omega
  ·omega
  ·omega
  ·omega
  ·omega
  ·exact hb b h
 have KC:∀a c:List Nat,(∀b∈a,b<256)->(∀b∈c,b<256)->∀b∈cQ a c,b<256:=by
  intro a c ha hc b hx;unfold cQ at hx;split at hx
  ·exact hc b hx
  ·exact ha b hx
 exact KC _ _ (KC _ _ hs h2.2) h3.1.2
theorem uQ{E:Nat->En}{len:Nat}{L:List It}(h:lu E len L)(hc:gZ E len=0):∀b∈ey L,b<256:=by
 refine DY (λx hx=>?_);obtain⟨j,hj,rfl⟩:=List.getElem_of_mem hx;obtain⟨bs,hp,e⟩:=h.2 j L[j] (List.getElem?_eq_getElem hj);have h9:=(mG hc).2 j (by rw[<-h.1];exact hj);rw[e];refine⟨λb hb=>rT _ b hb,λb hb=>?_⟩;have hb:b∈fB (E j) bs:=hb;unfold fB at hb;split at hb
 ·exact C9 hp (rT _) (by rw[dU];omega) b hb
 ·exact rT _ b hb
theorem Fd{N:Nat}{w:World}{x:Itv}{y:It}(h:ItAt N w x y)(hT:Tab w):Calls Tryz.prog 22 #[.agg (jE x.m (.slice x.a x.n x.c))] w λe w'=>UnpZ w w' (c8 y) e:=by
 obtain⟨a,ha⟩:=h.ck;obtain⟨_,_,hw,hz,hp,_⟩:=fZ ha;rcases hw with hw | hw
 ·exact Cs h hw
 ·rw[h.lab];have e:c8 y=c8 ⟨y.lab,y.bytes⟩:=rfl;rw[e];exact xM w y.lab x.a x.n x.c _ y.bytes h.src h.byte (by have:=h.pk;omega) h.len hw hz h.adr hT
theorem UnpOk.any{w:World}(hT:Tab w)(L:List It):UnpOk w L:=λ_ _ _ _ _ hi hk=>Fd hi (hT.kept hk (λf=>f))
theorem JF{E:Nat->En}{len:Nat}{L:List It}(h:lu E len L)(hc:gZ E len=0){j:Nat}{x:It}(hx:L[j]? = some x):c8 x=.ok (sb (E j).d)/\x.lab.name=sb (E j).n/\j<len:=by have hj:=(List.getElem?_eq_some_iff.1 hx).1;rw[h.1]at hj;obtain⟨bs,hp,e⟩:=h.2 j x hx;rw[e];exact⟨JG hp ((mG hc).2 j hj).2,rfl,hj⟩
theorem Jn(L:List It)(D:List (List Nat×List Nat))(hl:L.length=D.length)(h:∀(j:Nat) (x:It) (p:List Nat×List Nat),L[j]? = some x->D[j]? = some p->c8 x=.ok p.2/\x.lab.name=p.1):ef L=.ok D:=by
 induction L generalizing D with
 | nil=>cases D with
  | nil=>rfl
  | cons p r=>simp at hl
 | cons x r ih=>cases D with
  | nil=>simp at hl
  | cons p q=>
   obtain⟨h1,h2⟩:=h 0 x p rfl rfl;have h3:=ih q (by simpa using hl) (λj y z hy hz=>h (j+1) y z (by simpa using hy) (by simpa using hz));rw[ef,h1];simp only;rw[h3,h2]
def lw(E:Nat->En)(len:Nat):List (List Nat×List Nat):=(List.range len).map (λj=>(sb (E j).n,sb (E j).d))
theorem xl{E:Nat->En}{len:Nat}{L:List It}(h:lu E len L)(hc:gZ E len=0):C3 (ey L)=.ok (lw E len):=by unfold C3;rw[vJ h hc];refine Jn L _ (by simp[lw,h.1]) (λj x p hx hp=>?_);obtain⟨h1,h2,h3⟩:=JF h hc hx;unfold lw at hp;rw[List.getElem?_map,List.getElem?_range h3]at hp;simp only[Option.map_some,Option.some.injEq]at hp;subst hp;exact⟨h1,h2⟩
structure Pk(x:It):Prop where
 name:fa x.lab.name=true
 size:x.lab.size<=8192
 len:x.bytes.length=x.lab.packed
 stored:x.lab.way=8\/x.lab.packed=x.lab.size
 nb:∀b∈x.lab.name,b<256
 db:∀b∈x.bytes,b<256
theorem JM{R y:List Nat}{m:Mk}{at':Nat}(h:eU R=some ((m,at'),y))(hb:∀b∈R,b<256):(∀b∈m.name,b<256)/\∀b∈y,b<256:=by
 rw[JL]at h;split at h
 ·simp only[Option.some.injEq,Prod.mk.injEq]at h;obtain⟨⟨rfl,_⟩,rfl⟩:=h;exact⟨λb h1=>hb b (List.mem_of_mem_drop (List.mem_of_mem_take h1)),λb h1=>hb b (List.mem_of_mem_drop h1)⟩
 ·cases h
theorem Jp{m:Mk}{P b y:List Nat}(h:iC m P=some (b,y))(hb:∀c∈P,c<256):(∀c∈b,c<256)/\∀c∈y,c<256:=by
 unfold iC at h;rw[Bq]at h;split at h
 ·rw[aB rfl]at h;unfold eF at h;split at h
  ·simp only[Option.some.injEq,Prod.mk.injEq]at h;obtain⟨rfl,rfl⟩:=h;exact⟨λc h1=>hb c (List.mem_of_mem_drop (List.mem_of_mem_take h1)),λc h1=>hb c (List.mem_of_mem_drop (List.mem_of_mem_drop h1))⟩
  ·cases h
 ·rw[nM rfl]at h;cases h
theorem sY(fs:Nat):∀(n:Nat) (P R:List Nat) (l L:List It),dW fs n P R l=.ok L->(∀b∈P,b<256)->(∀b∈R,b<256)->(be l).Nodup->(∀x∈l,Pk x)->(be L).Nodup/\(∀x∈L,Pk x)/\L.length=l.length+n
 | 0,P,R,l,L,h,_,_,h1,h2=>by
  rw[dW]at h;split at h
  ·simp only[Except.ok.injEq]at h;subst h;exact⟨h1,h2,rfl⟩
  ·cases h
 | n+1,P,R,l,L,h,hP,hR,h1,h2=>by
  rw[dW]at h;cases hr:eU R with
  | none=>rw[hr]at h;cases h
  | some x=>
   obtain⟨⟨m,at'⟩,y⟩:=x;rw[hr]at h;simp only at h;split at h
   ·cases h
   ·rename_i hc;split at h
    ·cases h
    ·cases hp:iC m P with
     | none=>rw[hp]at h;cases h
     | some z=>
      obtain⟨b,P'⟩:=z;rw[hp]at h;simp only at h;obtain⟨c1,c2,c3,c4,_,c6⟩:=fZ (m:=m) (a:=be l) (by simpa using hc);have Sz:=JM hr hR;have Tn:=Jp hp hP;have rH:=(vH hp).2;have h9:=sY fs n P' y (l++[⟨m,b⟩]) L h Tn.2 Sz.2 (by
       unfold be at h1 c2 ⊢;rw[List.map_append,List.nodup_append];refine⟨h1,by simp,λa ha b' iH=>?_⟩;simp only[List.map_cons,List.map_nil,List.mem_singleton]at iH;rw[iH];exact λe=>c2 (by rw[<-e];exact ha)) (λx hx=>by
       rcases List.mem_append.1 hx with e | e
       ·exact h2 x e
       ·rw[List.mem_singleton.1 e];exact⟨c1,c4,rH,c6,Sz.1,Tn.1⟩)
      refine⟨h9.1,h9.2.1,?_⟩;rw[h9.2.2,List.length_append];simp;omega
theorem CO{b:List Nat}{L:List It}(h:fU b=.ok L)(hb:∀x∈b,x<256):(be L).Nodup/\(∀x∈L,Pk x)/\L.length<=64:=by
 unfold fU at h;split at h
 ·cases h
 split at h
 ·cases h
 cases he:iy (b.drop (b.length-22)) (b.length-22) with
 | error e=>rw[he]at h;cases h
 | ok x=>
  obtain⟨n,f⟩:=x;rw[he]at h;simp only at h;have h64:=(Bi he).2;obtain⟨h1,h2,h3⟩:=sY f n _ _ [] L h (λx hx=>hb x (List.mem_of_mem_take hx)) (λx hx=>hb x (List.mem_of_mem_take (List.mem_of_mem_drop hx))) (by simp[be]) (λx hx=>by cases hx);exact⟨h1,h2,by rw[h3];simpa using h64⟩
theorem Dm{x:It}{d:List Nat}(hg:Pk x)(h:c8 x=.ok d)(Sb:x.lab.way=8->∀b∈d,b<256):d.length=x.lab.size/\more 0 d=x.lab.sum/\∀b∈d,b<256:=by
 unfold c8 at h;split at h
 ·rename_i hw;split at h
  ·rename_i hh;split at h
   ·rename_i hs;simp only[Except.ok.injEq]at h;subst h;exact⟨hh.2.2,hs,Sb hw⟩
   ·cases h
  ·cases h
 ·rename_i hw;split at h
  ·rename_i hs;simp only[Except.ok.injEq]at h;subst h;rcases hg.stored with e | e
   ·exact absurd e hw
   ·exact⟨by rw[hg.len,e],hs,hg.db⟩
  ·cases h
theorem BA:∀{L:List It} {D:List (List Nat×List Nat)},ef L=.ok D->L.length=D.length/\∀(j:Nat) (x:It) (p:List Nat×List Nat),L[j]? = some x->D[j]? = some p->c8 x=.ok p.2/\x.lab.name=p.1
 | [],D,h=>by rw[ef]at h;simp only[Except.ok.injEq]at h;subst h;exact⟨rfl,λj x p h1=>by simp at h1⟩
 | y::L,D,h=>by
  rw[ef]at h;cases hu:c8 y with
  | error e=>rw[hu]at h;cases h
  | ok d=>
   rw[hu]at h;simp only at h;cases ha:ef L with
   | error e=>rw[ha]at h;cases h
   | ok D'=>
    rw[ha]at h;simp only[Except.ok.injEq]at h;subst h;obtain⟨h1,h2⟩:=BA ha;refine⟨by simp[h1],λj x p hx hp=>?_⟩;cases j with
    | zero=>
     simp only[List.getElem?_cons_zero,Option.some.injEq]at hx hp;subst hx hp;exact⟨hu,rfl⟩
    | succ j=>
     simp only[List.getElem?_cons_succ]at hx hp;exact h2 j x p hx hp
def rh(D:List (List Nat×List Nat))(j:Nat):En:=fS (D.getD j ([],[]))
structure So(L:List It)(D:List (List Nat×List Nat)):Prop where
 len:L.length=D.length
 h64:D.length<=64
 chk:gZ (rh D) D.length=0
 at':∀(j:Nat) (x:It) (p:List Nat×List Nat),L[j]? = some x->D[j]? = some p->x.lab.name=p.1/\p.2.length=x.lab.size/\more 0 p.2=x.lab.sum/\(∀b∈p.1,b<256)/\∀b∈p.2,b<256
theorem sQ{E:Nat->En}{s:ByteArray}:∀{n:Nat},(∀i,i<n->(E i).n≠s)->kK E s n=false
 | 0,_=>rfl
 | n+1,h=>by rw[kK,sQ (λi hi=>h i (by omega))];simp[h n (by omega)]
theorem qz{E:Nat->En}:∀(n i:Nat),(∀j,i<=j->j<i+n->uy E j=0)->iP E n i=0
 | 0,_,_=>rfl
 | n+1,i,h=>by rw[iP,if_pos (h i (Nat.le_refl _) (by omega))];exact qz n (i+1) (λj h1 h2=>h j (by omega) (by omega))
theorem Ja{b:List Nat}{L:List It}{D:List (List Nat×List Nat)}(h:fU b=.ok L)(ha:ef L=.ok D)(hb:∀x∈b,x<256)(Sb:∀x∈L,∀d,c8 x=.ok d->x.lab.way=8->∀c∈d,c<256):So L D:=by
 obtain⟨h1,h2,h3⟩:=CO h hb;obtain⟨h4,h5⟩:=BA ha;have hat:∀(j:Nat) (x:It) (p:List Nat×List Nat),L[j]? = some x->D[j]? = some p->x.lab.name=p.1/\p.2.length=x.lab.size/\more 0 p.2=x.lab.sum/\(∀b∈p.1,b<256)/\∀b∈p.2,b<256:=λj x p hx hp=>by obtain⟨e1,e2⟩:=h5 j x p hx hp;have hm:=List.mem_of_getElem? hx;obtain⟨g1,g2,g3⟩:=Dm (h2 x hm) e1 (Sb x hm _ e1);exact⟨e2,g1,g2,by rw[<-e2];exact(h2 x hm).nb,g3⟩
 have Ec:∀j (hj:j<D.length),L[j]? = some (L[j]'(by omega))/\D[j]? = some D[j]/\rh D j=fS D[j]:=λj hj=>⟨List.getElem?_eq_getElem (by omega),List.getElem?_eq_getElem hj,by unfold rh;simp[List.getD,hj]⟩
 refine⟨h4,by omega,?_,hat⟩;unfold gZ;rw[if_neg (by omega)];refine qz _ _ (λj _ hj=>?_);have hj:j<D.length:=by omega
 obtain⟨e1,e2,e3⟩:=Ec j hj;obtain⟨g1,g2,g3,g4,g5⟩:=hat j _ _ e1 e2;have hx:=h2 _ (List.mem_of_getElem? e1);unfold uy;rw[e3];show(if fa (sb (bF D[j].1))=false\/kK (rh D) (bF D[j].1) j=true then 80 else if 8192<(bF D[j].2).size then 87 else 0)=0;rw[qe _ g4,iJ,<-g1,if_neg,if_neg (by rw[g2];have:=hx.size;omega)];rintro(e | e)
 ·rw[hx.name]at e;cases e
 ·rw[sQ (λi hi=>?_)]at e
  ·cases e
  ·obtain⟨f1,f2,f3⟩:=Ec i (by omega);obtain⟨k1,_,_,k4,_⟩:=hat i _ _ f1 f2;rw[f3];show bF D[i].1≠bF _;intro e9;have RW:=AJ k4 (by rw[g1];exact g4) e9;rw[<-k1]at RW;have Pw:=List.pairwise_iff_getElem.1 (show List.Pairwise (·≠·) (be L)from h1) i j (by simp[be];omega) (by simp[be];omega) hi;exact Pw (by simpa[be]using RW)
theorem CN{P:List Nat}{most:Nat}(h:(oY (ae P) most).e=0):∀b∈(oY (ae P) most).out,b<256:=by
 by_cases hx:∃p:Ps×Nat,Ends (ae P) most ps0 p.1 p.2
 ·obtain⟨⟨t,er⟩,ht⟩:=hx;obtain⟨r1,r2,_⟩:=Bu ht;rw[r1]at h;subst h;rw[r2 (.inl rfl)];exact sF ht
 ·unfold oY at h;rw[dif_neg hx]at h;cases h
theorem Cp(x:It)(d:List Nat)(h:c8 x=.ok d)(hw:x.lab.way=8):∀c∈d,c<256:=by
 unfold c8 at h;rw[if_pos hw]at h;split at h
 ·rename_i hh;split at h
  ·simp only[Except.ok.injEq]at h;subst h;exact CN hh.1
  ·cases h
 ·cases h
theorem Co{E E':Nat->En}{len:Nat}{L L':List It}(h:lu E len L)(h':lu E' len L')(he:∀j,j<len->E j=E' j):L=L':=by
 apply List.ext_getElem?;intro j;by_cases hj:j<len
 ·have a1:j<L.length:=(by rw[h.1];exact hj);have a2:j<L'.length:=(by rw[h'.1];exact hj);obtain⟨b1,p1,e1⟩:=h.2 j L[j] (List.getElem?_eq_getElem a1);obtain⟨b2,p2,e2⟩:=h'.2 j L'[j] (List.getElem?_eq_getElem a2);rw[List.getElem?_eq_getElem a1,List.getElem?_eq_getElem a2,e1,e2,<-he j hj];rw[<-he j hj]at p2;rw[p1.same p2]
 ·rw[List.getElem?_eq_none (by rw[h.1];omega),List.getElem?_eq_none (by rw[h'.1];omega)]
theorem xz(fs:Nat):∀(n:Nat) (P R:List Nat) (l:List It) (k:Nat),dW fs n P R l=.error k->k≠0
 | 0,P,R,l,k,h=>by
  rw[dW]at h;split at h
  ·cases h
  ·cases h;decide
 | n+1,P,R,l,k,h=>by
  rw[dW]at h;cases hr:eU R with
  | none=>rw[hr]at h;cases h;decide
  | some x=>
   rw[hr]at h;simp only at h;split at h
   ·rename_i hc;simp only[Except.error.injEq]at h;rw[<-h];exact hc
   ·split at h
    ·cases h;decide
    ·cases hp:iC x.1.1 P with
     | none=>rw[hp]at h;cases h;decide
     | some z=>rw[hp]at h;exact xz fs n _ _ _ k h
theorem FC{x:It}{k:Nat}(h:c8 x=.error k):k≠0:=by
 unfold c8 at h;split at h
 ·split at h
  ·split at h
   ·cases h
   ·cases h;decide
  ·cases h;decide
 ·split at h
  ·cases h
  ·cases h;decide
theorem uO:∀{L:List It} {k:Nat},ef L=.error k->k≠0
 | [],k,h=>by rw[ef]at h;cases h
 | y::L,k,h=>by
  rw[ef]at h;cases hu:c8 y with
  | error e=>
   rw[hu]at h;simp only[Except.error.injEq]at h;rw[<-h];exact FC hu
  | ok d=>
   rw[hu]at h;simp only at h;cases ha:ef L with
   | error e=>
    rw[ha]at h;simp only[Except.error.injEq]at h;rw[<-h];exact uO ha
   | ok D=>rw[ha]at h;cases h
theorem JB{bs:List Nat}{k:Nat}(h:C3 bs=.error k):k≠0:=by
 unfold C3 at h;cases ni:fU bs with
 | ok L=>rw[ni]at h;exact uO h
 | error e=>
  rw[ni]at h;simp only[Except.error.injEq]at h;rw[<-h];unfold fU at ni;split at ni
  ·cases ni;decide
  split at ni
  ·cases ni;decide
  cases he:iy (bs.drop (bs.length-22)) (bs.length-22) with
  | error e9=>
   rw[he]at ni;simp only[Except.error.injEq]at ni;rw[<-ni];unfold iy at he;split at he
   ·cases he;decide
   split at he
   ·cases he;decide
   split at he
   ·cases he;decide
   ·cases he
  | ok x=>rw[he]at ni;exact xz _ _ _ _ _ _ ni
theorem tB{B1 B2:Nat}(w:World)(a b:Option Addr)(n m c1 c2:Nat)(M:List En)(h1:RowC B1 39 2 qH w (.slice a n c1) M)(h2:RowC B2 39 2 qH w (.slice b m c2) M)(hl:M.length≤1000):
  Calls Tryz.prog 8 #[.slice a n c1,.slice b m c2] w λe w'=>e=.returned (.bool true)/\Same w w':=by
 have hn:n=M.length:=by obtain⟨_,_,e,_⟩:=h1.shape;simp only[Value.slice.injEq]at e;exact e.2.1
 have hm:m=n:=by obtain⟨_,_,e,_⟩:=h2.shape;simp only[Value.slice.injEq]at e;rw[hn];exact e.2.1
 subst hm;have HA:Hid (RowC B1 39 2 qH w (.slice a m c1) M/\RowC B2 39 2 qH w (.slice b m c2) M/\m=M.length/\M.length<=1000):=hid ⟨h1,h2,hn,hl⟩;clear h1 h2 hn hl;have q0:((m:Int) != (m:Int))=false:=by simp
 go_enter Tryz.func8,Tryz.ntmps8;go_wp2_with fail;go_loopg [5] m (λqq z wr=>∃i:Nat,z=.int .i64 (i:Nat)/\i<=m/\m-i<=qq/\Hid (Same w wr))
 case atStart=>exact⟨0,rfl,by omega,by omega,hid (Kept.refl _ _)⟩
 case round=>
  obtain⟨i,rfl,hi,KV,HI⟩:=hrel;by_cases hlt:i<m
  ·have b1:decide (i<m)=true:=(by simp;omega);have AA:i<M.length:=(by have:=HA.out;omega);obtain⟨g,p1,hv,_,hc⟩:=HA.out.1.at8 ny i AA;obtain⟨g',p2,iF,_,Er⟩:=HA.out.2.1.at8 ny i AA;simp only[Value.slice.injEq]at hv iF;have e1:=hv.1;have e2:=iF.1;clear hv iF;subst e1 e2;obtain⟨x,hx⟩:∃x,x=M[i]:=⟨_,rfl⟩
   rw[<-hx]at hc Er;obtain⟨t,ht⟩:∃t,t=x.n:=⟨_,rfl⟩
   obtain⟨s,hs⟩:∃s,s=x.d:=⟨_,rfl⟩
   have k0:wr.cell? ⟨g,i*2,none⟩=some (.string t):=HI.out.cell (by rw[ht];exact hc 0 (by decide)) (λf=>f);have k1:wr.cell? ⟨g,i*2+1,none⟩=some (.string s):=HI.out.cell (by rw[hs];exact hc 1 (by decide)) (λf=>f);have l0:wr.cell? ⟨g',i*2,none⟩=some (.string t):=HI.out.cell (by rw[ht];exact Er 0 (by decide)) (λf=>f);have l1:wr.cell? ⟨g',i*2+1,none⟩=some (.string s):=HI.out.cell (by rw[hs];exact Er 1 (by decide)) (λf=>f);have i1:(0:Int)<=(i:Int):=(by omega);have i2:(i:Int)<(m:Int):=(by omega);have GY:IntKind.i64.wrap ((i:Int)+1)=((i+1:Nat):Int):=(by rw[IntKind.wrap_i64];have:=HA.out;omega);have HX:Hid (i<m):=hlt;clear hc Er ht hs hx hlt AA;go_wp2_with fail;go_quiet (fail);go_wp2_with fail;go_roundg (gk-1)
   case measure=>have:=HX.out;omega
   case rel=>exact⟨i+1,by go_num,by have:=HX.out;omega,by have:=HX.out;omega,hid (HI.out.drewN _)⟩
  ·have b1:decide (i<m)=false:=(by simp;omega);go_wp2_with fail;go_ret;exact⟨rfl,HI.out⟩
def Lo(_:Nat):En:=⟨⟨#[97]⟩,⟨#[111,110,101]⟩⟩
theorem ph:gZ Lo 1=0:=by decide +kernel
theorem Gr(w:World):Ents (w.alloc (.cells #[.string ⟨#[97]⟩,.string ⟨#[111,110,101]⟩] 39)) (λ_=>True) (some ⟨w.heap.size,0,none⟩) 1 Lo:=by
 intro j hj;have M8:j=0:=by omega
 subst M8;exact⟨w.heap.size,0,rfl,trivial,by simp[Lo],by simp[Lo]⟩
theorem Fr(w:World)(hx:Mxl w)(hT:Tab w):
  Calls Tryz.prog 4 #[] w λe w'=>e=.returned (.bool true)/\Same w w':=by
 obtain⟨W1,hW1⟩:∃W,W=w.alloc (.cells #[.string ⟨#[97]⟩,.string ⟨#[111,110,101]⟩] 39):=⟨_,rfl⟩
 obtain⟨xb,gW⟩:∃b,b=w.heap.size:=⟨_,rfl⟩
 have hk1:Same w W1:=by rw[hW1];exact(Kept.refl _ w).alloc _
 have H1:=jY W1 (some ⟨xb,0,none⟩) 1 1 Lo (by rw[hW1,gW];exact Gr w) (Nat.le_refl _) (hx.kept hk1 (λf=>f)) (hT.kept hk1 (λf=>f)) ph;have HX:Hid (Mxl w/\Tab w/\Same w W1):=hid ⟨hx,hT,hk1⟩;clear hx hT hk1;go_enter Tryz.func4,Tryz.ntmps4;go_wp2_with fail;rw[<-hW1,<-gW];clear hW1 gW;refine H1.mono ?_;rintro e w2 ⟨v2,L,rfl,hf2,uD⟩;have fK:=nw uD ph;have tf:=uQ uD ph;have hrd:=xl uD ph;obtain⟨a2,c2,oe,GX,_⟩:=hf2.row.shape8;obtain⟨n,hn⟩:∃n,n=(ey L).length:=⟨_,rfl⟩
 rw[<-hn]at oe GX fK;subst oe;have HK2:Hid (Same w w2):=hid (Same.trans HX.out.2.2 hf2.kept);have HRD:=qF w2 a2 n c2 (ey L) hf2.row.low8 hn tf GX (by omega) (HX.out.1.kept HK2.out (λf=>f)) (λL' _=>UnpOk.any (HX.out.2.1.kept HK2.out (λf=>f)) L');rw[hrd]at HRD;clear H1 hf2 uD fK tf hrd hn GX;go_wp2_with fail;refine HRD.mono ?_;intro e w3 h3;obtain⟨a3,n3,c3,rfl,hr3,Ss⟩:=h3.2.1 _ rfl;have hn3:n3=1:=by rw[Ss];rfl
 subst hn3;have HK3:Hid (Same w w3):=hid (Same.trans HK2.out h3.2.2);obtain⟨g,p3,pc,_,rg⟩:=hr3.at8 ny 0 (by simp[lw]);simp only[Value.slice.injEq]at pc;have fv:=pc.1;clear pc;subst fv;have k0:w3.cell? ⟨g,0,none⟩=some (.string ⟨#[97]⟩):=by have h9:=rg 0 (by decide);simp only[Nat.zero_mul,Nat.add_zero]at h9;rw[h9];simp[lw,fS,qH,Lo,jW]
 have k1:w3.cell? ⟨g,1,none⟩=some (.string ⟨#[111,110,101]⟩):=by have h9:=rg 1 (by decide);simp only[Nat.zero_mul,Nat.zero_add]at h9;rw[h9];simp[lw,fS,qH,Lo,jW]
 clear HRD h3 hr3 Ss rg;go_wp2_with fail;go_ret;exact⟨rfl,HK3.out⟩
theorem Ff(a:Option Addr)(len cap:Nat)(bs:List Nat)(W:World)(hs:Src W (fun k=>k<W.heap.size) (.slice a len cap) bs)(hl:len=bs.length)(hb:∀x∈bs,x<256)(cj:len≤cap)(hT:Tab W)(hx:Mxl W):
  Calls Tryz.prog 3 #[.slice a len cap] W λe w'=>e=.returned (.bool true)/\Same W w':=by
 have HX:Hid (Mxl W/\Tab W):=hid ⟨hx,hT⟩;have HZ:Hid (∀w',Same W w'->Calls Tryz.prog 4 #[] w' λe w2=>e=.returned (.bool true)/\Same w' w2):=hid (λw' hk=>Fr w' (hx.kept hk (λf=>f)) (hT.kept hk (λf=>f)));by_cases ei:4194304<len
 ·have b1:decide ((4194304:Int)<(len:Int))=true:=(by simp;omega);have WK:decide (4194304<len)=true:=(by simp;omega);have b1g:decide ((len:Int) > 4194304)=true:=(by simp;omega);have H0:=HZ.out W (Kept.refl _ _);clear ei hs hl hb cj hT hx;go_enter Tryz.func3,Tryz.ntmps3;go_wp2_with fail;refine H0.mono ?_;rintro e w1 ⟨rfl,hk1⟩;have HK1:Hid (Same W w1):=hk1;clear hk1 H0;go_wp2_with fail;go_ret;exact⟨rfl,HK1.out⟩
 have b1:decide ((4194304:Int)<(len:Int))=false:=by simp;omega
 have WK:decide (4194304<len)=false:=by simp;omega
 have b1g:decide ((len:Int) > 4194304)=false:=by simp;omega
 have HRD:=qF W a len cap bs hs hl hb cj (by omega) hx (λL' _=>UnpOk.any hT L');have HSB:Hid (Src W (λk=>k<W.heap.size) (.slice a len cap) bs/\len=bs.length/\(∀x∈bs,x<256)/\len<=cap/\len<=4194304):=hid ⟨hs,hl,hb,cj,by omega⟩;clear ei hs hl hb cj hT hx;go_enter Tryz.func3,Tryz.ntmps3;go_wp2_with fail;refine HRD.mono ?_;intro e w1 h1;cases hrd:C3 bs with
 | error k=>
  have hkk:=h1.1 k hrd;subst hkk;have hk0:k≠0:=JB hrd;have e0:((k:Int) != 0)=true:=(by simp;omega);have HK1:Hid (Same W w1):=hid h1.2.2;have H0:=HZ.out w1 HK1.out;clear h1 HRD hrd hk0;go_wp2_with fail;refine H0.mono ?_;rintro e w2 ⟨rfl,hk2⟩;have HK2:Hid (Same W w2):=hid (Same.trans HK1.out hk2);clear hk2 H0;go_wp2_with fail;go_ret;exact⟨rfl,HK2.out⟩
 | ok D=>
  obtain⟨a1,n1,c1,rfl,hr1,hn1⟩:=h1.2.1 D hrd;have HK1:Hid (Same W w1):=hid h1.2.2;obtain⟨L,ni,hal⟩:∃L,fU bs=.ok L/\ef L=.ok D:=by
   unfold C3 at hrd;cases ni:fU bs with
   | error e=>rw[ni]at hrd;cases hrd
   | ok L=>rw[ni]at hrd;exact⟨L,rfl,hrd⟩
  have hG:=Ja ni hal HSB.out.2.2.1 (λx _ d h hw=>Cp x d h hw);have HG:Hid (So L D):=hG;have yj:D.length<=64:=hG.h64;have HD:Hid (n1=D.length/\D.length<=64/\fU bs=.ok L):=hid ⟨hn1,yj,ni⟩;have HR1:Hid (RowC W.heap.size 39 2 qH w1 (.slice a1 n1 c1) (D.map fS)):=hr1;have eH:n1<=c1:=(by obtain⟨_,_,e,_,_,h9,_⟩:=hr1.shape;simp only[Value.slice.injEq]at e;omega);have HC1:Hid (n1<=c1):=eH;have HLS:=vt w1 a len cap bs ((HSB.out.1.kept HK1.out (λ_ _ _ f=>f)).mono (λk hk=>Nat.lt_of_lt_of_le hk HK1.out.size)) HSB.out.2.1 HSB.out.2.2.1 HSB.out.2.2.2.1 (by have:=HSB.out;omega) (HX.out.1.kept HK1.out (λf=>f));rw[ni]at HLS;clear h1 HRD hr1 hn1 ni hal hG yj hrd eH;go_wp2_with fail;refine HLS.mono ?_;intro e w2 h2;obtain⟨a2,n2,c2,rfl,hr2,hn2⟩:=h2.2.1 _ rfl;have HK2:Hid (Same w1 w2/\Same W w2):=hid ⟨h2.2.2,Same.trans HK1.out h2.2.2⟩;have HR2:Hid (RowC w1.heap.size 37 5 uL w2 (.slice a2 n2 c2) (L.map (·.lab))/\n2=L.length):=hid ⟨hr2,hn2⟩;have Tq:Ents w2 (λ_=>True) a1 n1 (rh D):=(by have h9:=Ents.ofRow (HR1.out.kept HK2.out.1 (λ_ _ f=>f)) (by rw[List.length_map];exact HD.out.1);intro j hj;obtain⟨b,o,e1,e2,e3,e4⟩:=h9 j hj;have e5:(D.map fS).getD j default=rh D j:=(by have Mz:j<D.length:=(by have:=HD.out;omega);unfold rh;simp[List.getD,Mz]);simp only[e5]at e3 e4;exact⟨b,o,e1,e2,e3,e4⟩);have L0:gZ (rh D) n1=0:=(by rw[HD.out.1];exact HG.out.chk);have HCK:Hid (gZ (rh D) n1=0):=L0;have HW1:=jY w2 a1 n1 c1 (rh D) Tq HC1.out (HX.out.1.kept HK2.out.2 (λf=>f)) (HX.out.2.kept HK2.out.2 (λf=>f)) L0;clear HLS h2 hr2 hn2 Tq L0;go_wp2_with fail;refine HW1.mono ?_;rintro e w3 ⟨v3,L3,rfl,hf3,AB⟩;have HI3:Hid (lu (rh D) n1 L3):=AB;have fK:=nw AB HCK.out;have HBY:Hid (∀x∈ey L3,x<256):=hid (uQ AB HCK.out);obtain⟨a3,c3,pc,B5,_⟩:=hf3.row.shape8;obtain⟨n3,hn3⟩:∃n,n=(ey L3).length:=⟨_,rfl⟩
  rw[<-hn3]at pc B5 fK;subst pc;have HR3:Hid (Row w3 (.slice a3 n3 c3) (ey L3)/\n3=(ey L3).length/\n3<=c3/\n3<=1048576):=hid ⟨hf3.row,hn3,B5,fK⟩;have HK3:Hid (Same w2 w3/\Same W w3):=hid ⟨hf3.kept,Same.trans HK2.out.2 hf3.kept⟩;have HRD:=qF w3 a3 n3 c3 (ey L3) hf3.row.low8 hn3 HBY.out B5 (by omega) (HX.out.1.kept HK3.out.2 (λf=>f)) (λL' _=>UnpOk.any (HX.out.2.kept HK3.out.2 (λf=>f)) L');rw[xl HI3.out HCK.out]at HRD;clear HW1 hf3 AB fK hn3 B5;go_wp2_with fail;refine HRD.mono ?_;intro e w4 h4;obtain⟨a4,n4,c4,rfl,hr4,hn4⟩:=h4.2.1 _ rfl;have O1:(lw (rh D) n1).map fS=D.map fS:=by
   apply List.ext_getElem?;intro j;by_cases hj:j<n1
   ·have Mz:j<D.length:=(by have:=HD.out;omega);unfold lw;rw[List.getElem?_map,List.getElem?_map,List.getElem?_range hj,List.getElem?_map,List.getElem?_eq_getElem Mz];show some (fS (sb (rh D j).n,sb (rh D j).d))=some (fS D[j]);have e5:rh D j=fS D[j]:=(by unfold rh;simp[List.getD,Mz]);rw[e5];unfold fS;simp only[jW]
   ·rw[List.getElem?_eq_none (by simp[lw];omega),List.getElem?_eq_none (by rw[List.length_map];have:=HD.out;omega)]
  rw[O1]at hr4;have Pi:n4=n1:=(by rw[hn4];simp[lw]);have HK4:Hid (Same w3 w4/\Same W w4):=hid ⟨h4.2.2,Same.trans HK3.out.2 h4.2.2⟩;have HR4:Hid (RowC w3.heap.size 39 2 qH w4 (.slice a4 n4 c4) (D.map fS)/\n4=n1):=hid ⟨hr4,Pi⟩;have js:n4<=c4:=(by obtain⟨_,_,e,_,_,h9,_⟩:=hr4.shape;simp only[Value.slice.injEq]at e;omega);have HC4:Hid (n4<=c4):=js;have HLS:=vt w4 a3 n3 c3 (ey L3) (HR3.out.1.kept HK4.out.1 (λ_ _ f=>f)).low8 HR3.out.2.1 HBY.out HR3.out.2.2.1 (by have:=HR3.out;omega) (HX.out.1.kept HK4.out.2 (λf=>f));rw[vJ HI3.out HCK.out]at HLS;clear HRD h4 hr4 hn4 O1 Pi js;go_wp2_with fail;refine HLS.mono ?_;intro e w5 h5;obtain⟨a5,n5,c5,rfl,hr5,hn5⟩:=h5.2.1 _ rfl;have HK5:Hid (Same w4 w5/\Same W w5):=hid ⟨h5.2.2,Same.trans HK4.out.2 h5.2.2⟩;have HR5:Hid (RowC w4.heap.size 37 5 uL w5 (.slice a5 n5 c5) (L3.map (·.lab))/\n5=L3.length):=hid ⟨hr5,hn5⟩;have SA:Ents w5 (λ_=>True) a4 n4 (rh D):=by have h9:=Ents.ofRow (HR4.out.1.kept HK5.out.1 (λ_ _ f=>f)) (by rw[List.length_map,HR4.out.2];exact HD.out.1);intro j hj;obtain⟨b,o,e1,e2,e3,e4⟩:=h9 j hj;have e5:(D.map fS).getD j default=rh D j:=(by have Mz:j<D.length:=(by have:=HD.out;have:=HR4.out;omega);unfold rh;simp[List.getD,Mz]);simp only[e5]at e3 e4;exact⟨b,o,e1,e2,e3,e4⟩
  have HW2:=jY w5 a4 n4 c4 (rh D) SA HC4.out (HX.out.1.kept HK5.out.2 (λf=>f)) (HX.out.2.kept HK5.out.2 (λf=>f)) (by rw[HR4.out.2];exact HCK.out);clear HLS h5 hr5 hn5 SA;go_wp2_with fail;refine HW2.mono ?_;rintro e w6 ⟨v6,L6,rfl,hf6,hi6⟩;have UH:L6=L3:=(by have h9:=hi6;rw[HR4.out.2]at h9;exact Co h9 HI3.out (λ_ _=>rfl));subst UH;obtain⟨a6,c6,oK,N0,_⟩:=hf6.row.shape8;rw[<-HR3.out.2.1]at oK;subst oK;have HK6:Hid (Same w5 w6/\Same W w6):=hid ⟨hf6.kept,Same.trans HK5.out.2 hf6.kept⟩;have HR6:Hid (Row w6 (.slice a6 n3 c6) (ey L6)):=hf6.row;have QA:Same w1 w6:=Same.trans HK2.out.1 (Same.trans HK3.out.1 (Same.trans HK4.out.1 (Same.trans HK5.out.1 HK6.out.1)));have Oz:Same w4 w6:=Same.trans HK5.out.1 HK6.out.1;have HEN:=tB w6 a1 a4 n1 n4 c1 c4 (D.map fS) (HR1.out.kept QA (λ_ _ f=>f)) (HR4.out.1.kept Oz (λ_ _ f=>f)) (by rw[List.length_map];have:=HD.out;omega);have HKK:Hid (Same w1 w6/\Same w4 w6/\Same w3 w6/\Same w2 w6):=hid ⟨QA,Oz,Same.trans HK4.out.1 Oz,Same.trans HK3.out.1 (Same.trans HK4.out.1 Oz)⟩;clear HW2 hf6 hi6 N0 QA Oz;go_wp2_with fail;refine HEN.mono ?_;rintro e w7 ⟨rfl,dh⟩;have HK7:Hid (Same w6 w7/\Same W w7):=hid ⟨dh,Same.trans HK6.out.2 dh⟩;have HBt:=rt (.slice a3 n3 c3) (.slice a6 n3 c6) _ _ (ey L6) (ey L6) w7 (Src.ofRow (HR3.out.1.kept (Same.trans HKK.out.2.2.1 dh) (λ_ _ f=>f))) (Src.ofRow (HR6.out.kept dh (λ_ _ f=>f))) (by have:=HR3.out;omega) (by have:=HR3.out;omega);rw[show decide (ey L6=ey L6)=true by simp]at HBt;clear HEN dh;go_wp2_with fail;refine HBt.mono ?_;rintro e w8 ⟨rfl,m8,rfl⟩;have HK8:Hid (Same w7 (w7.drewN m8)/\Same W (w7.drewN m8)):=hid ⟨(Kept.refl _ w7).drewN m8,HK7.out.2.drewN m8⟩;clear HBt;have ag:n2=n1/\n5=n1:=(by have h1:=HR2.out.2;have h2:=HR5.out.2;have h3:=HG.out.len;have h4:=HI3.out.1;have h5:=HD.out.1;omega);have q2:((n2:Int) != (n1:Int))=false:=(by simp;omega);have q5:((n5:Int) != (n1:Int))=false:=(by simp;omega);have HLE:Hid (n2=n1/\n5=n1):=ag;clear ag;go_wp2_with fail;go_loopg [15] n1 (λqq z wr=>∃i:Nat,z=.int .i64 (i:Nat)/\i<=n1/\n1-i<=qq/\Hid (Same w7 wr))
  case atStart=>exact⟨0,rfl,by omega,by omega,hid HK8.out.1⟩
  case round=>
   obtain⟨i,rfl,hi,KV,HI⟩:=hrel;by_cases hlt:i<n1
   ·have d1:decide (i<n1)=true:=(by simp;omega);have G9:i<D.length:=(by have:=HD.out;omega);have hiL:i<L.length:=(by have:=HG.out.len;omega);have AB:i<L6.length:=(by have:=HI3.out.1;omega);obtain⟨p1,p2,p3,p4,p5⟩:=HG.out.at' i L[i] D[i] (List.getElem?_eq_getElem hiL) (List.getElem?_eq_getElem G9);obtain⟨Yc,_,Ek⟩:=HI3.out.2 i L6[i] (List.getElem?_eq_getElem AB);have S7:rh D i=fS D[i]:=(by unfold rh;simp[List.getD,G9]);have Kz:Same w1 wr:=Same.trans HKK.out.1 (Same.trans HK7.out.1 HI.out);have Ol:Same w2 wr:=Same.trans HKK.out.2.2.2 (Same.trans HK7.out.1 HI.out);have ON:Same w5 wr:=Same.trans HK6.out.1 (Same.trans HK7.out.1 HI.out);obtain⟨g2,r2,oe,_,cm⟩:=(HR2.out.1.kept Ol (λ_ _ f=>f)).at8 zX i (by rw[List.length_map];exact hiL);obtain⟨g5,r5,fJ,_,Kj⟩:=(HR5.out.1.kept ON (λ_ _ f=>f)).at8 zX i (by rw[List.length_map];exact AB);obtain⟨g1,r1,fv,_,eH⟩:=(HR1.out.kept Kz (λ_ _ f=>f)).at8 ny i (by rw[List.length_map];exact G9);simp only[Value.slice.injEq]at fv oe fJ;have u1:=fv.1;have u2:=oe.1;have u5:=fJ.1;clear fv oe fJ;subst u1 u2 u5;rw[List.getElem_map]at eH cm Kj;rw[Ek,S7]at Kj;obtain⟨t,ht⟩:∃t,t=bF D[i].1:=⟨_,rfl⟩
    obtain⟨dd,yk⟩:∃t,t=bF D[i].2:=⟨_,rfl⟩
    obtain⟨sz,cX⟩:∃n,n=D[i].2.length:=⟨_,rfl⟩
    obtain⟨sm,fK⟩:∃n,n=more 0 D[i].2:=⟨_,rfl⟩
    have l0:wr.cell? ⟨g2,i*5,none⟩=some (.string t):=(by have h9:=cm 0 (by decide);rw[Nat.add_zero]at h9;rw[h9,ht,<-p1];rfl);have l1:wr.cell? ⟨g2,i*5+1,none⟩=some (.int .i64 (sz:Nat)):=(by rw[cm 1 (by decide),cX,p2];rfl);have l3:wr.cell? ⟨g2,i*5+3,none⟩=some (.int .u32 (sm:Nat)):=(by rw[cm 3 (by decide),fK,p3];rfl);have o0:wr.cell? ⟨g5,i*5,none⟩=some (.string t):=(by have h9:=Kj 0 (by decide);rw[Nat.add_zero]at h9;rw[h9,ht];show some (Value.string (bF (sb (bF D[i].1))))=_;rw[jW]);have o1:wr.cell? ⟨g5,i*5+1,none⟩=some (.int .i64 (sz:Nat)):=(by rw[Kj 1 (by decide),cX];show some (Value.int .i64 (((bF D[i].2).size:Nat):Int))=_;rw[iJ]);have o3:wr.cell? ⟨g5,i*5+3,none⟩=some (.int .u32 (sm:Nat)):=(by rw[Kj 3 (by decide),fK];show some (Value.int .u32 ((more 0 (sb (bF D[i].2)):Nat):Int))=_;rw[qe _ p5]);have k1:wr.cell? ⟨g1,i*2+1,none⟩=some (.string dd):=(by rw[eH 1 (by decide),yk];rfl);have PN:dd.size=sz:=(by rw[yk,iJ,cX]);have f0:(t.toList != t.toList)=false:=(by simp);have f1:((sz:Int) != (sz:Int))=false:=(by simp);have f3:((sm:Int) != (sm:Int))=false:=(by simp);have i1:(0:Int)<=(i:Int):=(by omega);have i2:(i:Int)<(n1:Int):=(by omega);have i3:(i:Int)<(n2:Int):=(by have:=HLE.out;omega);have i5:(i:Int)<(n5:Int):=(by have:=HLE.out;omega);have GY:IntKind.i64.wrap ((i:Int)+1)=((i+1:Nat):Int):=(by rw[IntKind.wrap_i64];have:=HD.out;omega);have HXi:Hid (i<n1):=hlt;clear p1 p2 p3 p4 p5 Ek S7 Kz Ol ON eH cm Kj ht yk cX fK hlt G9 hiL AB;go_wp2_with fail;go_quiet (fail);go_wp2_with fail;go_roundg (gk-1)
    case measure=>have:=HXi.out;omega
    case rel=>exact⟨i+1,by go_num,by have:=HXi.out;omega,by have:=HXi.out;omega,hid (HI.out.drewN _)⟩
   ·have d1:decide (i<n1)=false:=(by simp;omega);have HW9:Hid (Same W wr):=hid (Same.trans HK7.out.2 HI.out);have H0:=HZ.out wr HW9.out;go_wp2_with fail;refine H0.mono ?_;rintro e w9 ⟨rfl,hk9⟩;have HK9:Hid (Same W w9):=hid (Same.trans HW9.out hk9);clear hk9 H0;go_wp2_with fail;go_ret;exact⟨rfl,HK9.out⟩
theorem oX(a:Option Addr)(len cap:Nat)(zs:List Int)(W:World)(h:IsRow .u8 W a len cap zs)(hT:Tab W)(hx:Mxl W):
  Calls Tryz.prog 3 #[.slice a len cap] W λe w'=>e=.returned (.bool true)/\Below W.heap.size W w':=by
 obtain⟨bs,hs,hl,hb⟩:=h.src;exact(Ff a len cap bs W hs hl.symm hb h.lenCap hT hx).mono (λ_ _ h=>⟨h.1,h.2.bel⟩)
end Go.Proofs.YtllcnlnbpikhdaaGreatDoor
