import Derived.Defers
import Derived.Recover
import Derived.BigQuiet
import Derived.Deep.QuietTactic
import Derived.Test.YtkhagfgineifhaaGreatDoorJ47
import Derived.Test.YtkhagfgineifhaaGreatDoorJ45
set_option maxHeartbeats 4000000
set_option maxRecDepth 100000
namespace Go.Proofs.YtkhagfgineifhaaGreatDoor
open Go.RowKit
theorem oz(p:Nat)(x:Int)(n:Nat)(w:World)(hc:w.cell? ⟨p,0,none⟩=some (.int .i64 x))(hz:w.frozen? ⟨p,0,none⟩=false):
  CallsD Tryz.prog 20 #[.pointer (some ⟨p,0,none⟩)] (.panicking [{v:=.iface 26 (.int .i64 (n:Nat)),recovered:=false}]) w λe u' w'=>
   e=.returned (.tuple #[])/\u'=.panicking [{v:=.iface 26 (.int .i64 (n:Nat)),recovered:=true}]/\w'=w.setCell ⟨p,0,none⟩ (.int .i64 (n:Nat)):=by
 refine callsD_of_wpS Tryz.func20 rfl λc₀ cs hu=>?_
 have HG:=jz w n;apply wpS_region;simp[wpOpsS,go_sem,recoverD,hu,Tryz.ntmps20];refine HG.mono ?_;rintro e w' ⟨rfl,rfl⟩;simp[go_sem,hc,hz,bodyPostS,results,Tryz.results20]
theorem wL(p:Nat)(x:Int)(w:World)(hc:w.cell? ⟨p,0,none⟩=some (.int .i64 x))(hz:w.frozen? ⟨p,0,none⟩=false):
  CallsD Tryz.prog 20 #[.pointer (some ⟨p,0,none⟩)] .returning w λe u' w'=>e=.returned (.tuple #[])/\u'=.returning/\w'=w.setCell ⟨p,0,none⟩ (.int .i64 0):=by
 refine callsD_of_wpS Tryz.func20 rfl λc₀ cs hu=>?_
 have HG:=ju w;apply wpS_region;simp[wpOpsS,go_sem,recoverD,hu,Tryz.ntmps20];refine HG.mono ?_;rintro e w' ⟨rfl,rfl⟩;cases c₀;simp_all[go_sem,bodyPostS,results,Tryz.results20]
theorem i6(p:Nat)(x:Int)(n:Nat)(w:World)(hc:w.cell? ⟨p,0,none⟩=some (.int .i64 x))(hz:w.frozen? ⟨p,0,none⟩=false):
  CallsD Tryz.prog 24 #[.pointer (some ⟨p,0,none⟩)] (.panicking [{v:=.iface 26 (.int .i64 (n:Nat)),recovered:=false}]) w λe u' w'=>
   e=.returned (.tuple #[])/\u'=.panicking [{v:=.iface 26 (.int .i64 (n:Nat)),recovered:=true}]/\w'=w.setCell ⟨p,0,none⟩ (.int .i64 (n:Nat)):=by
 refine callsD_of_wpS Tryz.func24 rfl λc₀ cs hu=>?_
 have HG:=jz w n;apply wpS_region;simp[wpOpsS,go_sem,recoverD,hu,Tryz.ntmps24];refine HG.mono ?_;rintro e w' ⟨rfl,rfl⟩;simp[go_sem,hc,hz,bodyPostS,results,Tryz.results24]
theorem vO(p:Nat)(x:Int)(w:World)(hc:w.cell? ⟨p,0,none⟩=some (.int .i64 x))(hz:w.frozen? ⟨p,0,none⟩=false):
  CallsD Tryz.prog 24 #[.pointer (some ⟨p,0,none⟩)] .returning w λe u' w'=>e=.returned (.tuple #[])/\u'=.returning/\w'=w.setCell ⟨p,0,none⟩ (.int .i64 0):=by
 refine callsD_of_wpS Tryz.func24 rfl λc₀ cs hu=>?_
 have HG:=ju w;apply wpS_region;simp[wpOpsS,go_sem,recoverD,hu,Tryz.ntmps24];refine HG.mono ?_;rintro e w' ⟨rfl,rfl⟩;cases c₀;simp_all[go_sem,bodyPostS,results,Tryz.results24]
theorem ff(p:Nat)(x:Int)(n:Nat)(w:World)(hc:w.cell? ⟨p,0,none⟩=some (.int .i64 x))(hz:w.frozen? ⟨p,0,none⟩=false):
  CallsD Tryz.prog 26 #[.pointer (some ⟨p,0,none⟩)] (.panicking [{v:=.iface 26 (.int .i64 (n:Nat)),recovered:=false}]) w λe u' w'=>
   e=.returned (.tuple #[])/\u'=.panicking [{v:=.iface 26 (.int .i64 (n:Nat)),recovered:=true}]/\w'=w.setCell ⟨p,0,none⟩ (.int .i64 (n:Nat)):=by
 refine callsD_of_wpS Tryz.func26 rfl λc₀ cs hu=>?_
 have HG:=jz w n;apply wpS_region;simp[wpOpsS,go_sem,recoverD,hu,Tryz.ntmps26];refine HG.mono ?_;rintro e w' ⟨rfl,rfl⟩;simp[go_sem,hc,hz,bodyPostS,results,Tryz.results26]
theorem wJ(p:Nat)(x:Int)(w:World)(hc:w.cell? ⟨p,0,none⟩=some (.int .i64 x))(hz:w.frozen? ⟨p,0,none⟩=false):
  CallsD Tryz.prog 26 #[.pointer (some ⟨p,0,none⟩)] .returning w λe u' w'=>e=.returned (.tuple #[])/\u'=.returning/\w'=w.setCell ⟨p,0,none⟩ (.int .i64 0):=by
 refine callsD_of_wpS Tryz.func26 rfl λc₀ cs hu=>?_
 have HG:=ju w;apply wpS_region;simp[wpOpsS,go_sem,recoverD,hu,Tryz.ntmps26];refine HG.mono ?_;rintro e w' ⟨rfl,rfl⟩;cases c₀;simp_all[go_sem,bodyPostS,results,Tryz.results26]
structure Itv where
 m:Mk
 a:Option Addr
 n:Nat
 c:Nat
instance:Inhabited Itv:=⟨⟨⟨0,0,0,0,[]⟩,none,0,0⟩⟩
def Itv.v(x:Itv):Value:=.slice x.a x.n x.c
def mu(x:Itv):List Value:=[.int .u16 (x.m.way:Nat),.int .u32 (x.m.sum:Nat),.int .u32 (x.m.packed:Nat),.int .u32 (x.m.size:Nat),.string (bH x.m.name),.slice x.a x.n x.c]
theorem pV:dJ mu 6:=⟨λ_=>rfl,λx u hu=>by simp[mu]at hu;rcases hu with rfl | rfl | rfl | rfl | rfl | rfl<;>rfl,by decide⟩
theorem Tryz.infoItem:(Tryz.prog.info? 60).map (λi=>(i.zero,i.size,i.bytes))=some (some (.agg #[.int .u16 0,.int .u32 0,.int .u32 0,.int .u32 0,.string ⟨#[]⟩,.slice none 0 0]),6,56):=by kernel_rfl
theorem Tryz.infoEntry:(Tryz.prog.info? 42).map (λi=>(i.zero,i.size,i.bytes))=some (some (.agg #[.string ⟨#[]⟩,.string ⟨#[]⟩]),2,32):=by kernel_rfl
def yL(y:En):List Value:=[.string y.n,.string y.d]
theorem Fo:dJ yL 2:=⟨λ_=>rfl,λx u hu=>by simp[yL]at hu;rcases hu with rfl | rfl<;>rfl,by decide⟩
theorem RowC.at8{α:Type}{B:Nat}{t k:Nat}{enc:α->List Value}(ok:dJ enc k){w:World}{v:Value}{xs:List α}(h:RowC B t k enc w v xs)(j:Nat)(hj:j<xs.length):∃g cap,v=.slice (some ⟨g,0,none⟩) xs.length cap/\B<=g/\∀i,i<k->w.cell? ⟨g,j*k+i,none⟩=(enc xs[j])[i]?:=by
 rcases h.2 with⟨_,h0⟩ | ⟨g,cap,cur,hv,hb,_⟩
 ·omega
 ·refine⟨g,cap,hv,hb,λi hi=>?_⟩;have hg:=rz ok xs j i hj hi;have vw:i<(enc xs[j]).length:=(by rw[ok.len];exact hi);rw[List.getElem?_eq_getElem vw]at hg ⊢;have:=World.ownsRow.cells h (g:=g) (by rw[hv];rfl) (j*k+i) _ hg;rw[cf,Nat.zero_add]at this;exact this
theorem Itms.ofRow{B:Nat}{w:World}{a:Option Addr}{n c:Nat}{xs:List Itv}(h:RowC B 60 6 mu w (.slice a n c) xs)(hn:n=xs.length):Itms w a n (λj=>(xs.getD j default).m) (λj=>(xs.getD j default).v):=by
 subst hn;intro j hj;obtain⟨g,cap,hv,_,hc⟩:=h.at8 pV j hj;simp only[Value.slice.injEq]at hv;have e:xs.getD j default=xs[j]:=by rw[List.getD_eq_getElem?_getD,List.getElem?_eq_getElem hj];rfl
 simp only[e];refine⟨g,0,hv.1,?_,?_,?_,?_,?_,?_⟩
 ·have:=hc 0 (by decide);simpa[mu]using this
 ·have:=hc 1 (by decide);simpa[mu]using this
 ·have:=hc 2 (by decide);simpa[mu]using this
 ·have:=hc 3 (by decide);simpa[mu]using this
 ·have:=hc 4 (by decide);simpa[mu]using this
 ·have:=hc 5 (by decide);simpa[mu,Itv.v]using this
structure ItAt(N:Nat)(w:World)(x:Itv)(y:It):Prop where
 lab:x.m=y.lab
 src:Src w (λk=>k<N) (.slice x.a x.n x.c) y.bytes
 len:x.n=y.bytes.length
 byte:∀b∈y.bytes,b<256
 nam:∀b∈y.lab.name,b<256
 ok:gN y.lab
 pk:y.bytes.length=y.lab.packed
 ck:∃a,dj y.lab a=0
 adr:x.a≠none
def Its(N:Nat)(w:World)(xs:List Itv)(L:List It):Prop:=xs.length=L.length/\∀(j:Nat) (x:Itv) (y:It),xs[j]? = some x->L[j]? = some y->ItAt N w x y
theorem Its.nil(N:Nat)(w:World):Its N w [] []:=⟨rfl,λj x y h=>(by simp at h)⟩
theorem ItAt.kept{F:Nat->Prop}{N:Nat}{w w':World}{x:Itv}{y:It}(h:ItAt N w x y)(hk:Kept F w w')(hF:∀k,k<N->¬F k):ItAt N w' x y:=
 ⟨h.lab,h.src.kept hk (λk hk _=>hF k hk),h.len,h.byte,h.nam,h.ok,h.pk,h.ck,h.adr⟩
theorem Its.kept{F:Nat->Prop}{N:Nat}{w w':World}{xs:List Itv}{L:List It}(h:Its N w xs L)(hk:Kept F w w')(hF:∀k,k<N->¬F k):Its N w' xs L:=
 ⟨h.1,λj x y h1 h2=>(h.2 j x y h1 h2).kept hk hF⟩
theorem Its.snoc{N:Nat}{w:World}{xs:List Itv}{L:List It}(h:Its N w xs L){x:Itv}{y:It}(hx:ItAt N w x y):Its N w (xs++[x]) (L++[y]):=by
 refine⟨by simp[h.1],λj x' y' h1 h2=>?_⟩;by_cases hj:j<xs.length
 ·rw[List.getElem?_append_left hj]at h1;rw[List.getElem?_append_left (by rw[<-h.1];exact hj)]at h2;exact h.2 j x' y' h1 h2
 ·rw[List.getElem?_append_right (by omega)]at h1;rw[List.getElem?_append_right (by rw[<-h.1];omega),<-h.1]at h2;have e:j-xs.length=0:=by
   rcases Nat.eq_zero_or_pos (j-xs.length)with e | e
   ·exact e
   ·rw[List.getElem?_eq_none (by simp;omega)]at h1;cases h1
  rw[e]at h1 h2;simp only[List.getElem?_cons_zero,Option.some.injEq]at h1 h2;subst h1;subst h2;exact hx
theorem Its.names{N:Nat}{w:World}{xs:List Itv}{L:List It}(h:Its N w xs L):jK (λj=>(xs.getD j default).m) xs.length=bM L:=by
 unfold jK bM;refine List.ext_getElem (by simp[h.1]) (λj h1 h2=>?_);simp only[List.length_map,List.length_range]at h1 h2;simp only[List.getElem_map,List.getElem_range];have e:xs.getD j default=xs[j]:=by rw[List.getD_eq_getElem?_getD,List.getElem?_eq_getElem h1];rfl
 rw[e,(h.2 j _ _ (List.getElem?_eq_getElem h1) (List.getElem?_eq_getElem h2)).lab]
theorem Its.nam{N:Nat}{w:World}{xs:List Itv}{L:List It}(h:Its N w xs L):∀i,i<xs.length->∀b∈(xs.getD i default).m.name,b<256:=by
 intro j hj;have h2:j<L.length:=by rw[<-h.1];exact hj
 have e:xs.getD j default=xs[j]:=by rw[List.getD_eq_getElem?_getD,List.getElem?_eq_getElem hj];rfl
 have hi:=h.2 j _ _ (List.getElem?_eq_getElem hj) (List.getElem?_eq_getElem h2);rw[e,hi.lab];exact hi.nam
def OpnA(w w':World)(o:Except Nat (List It))(e:Ending):Prop:=
 (∀k,o=.error k->e=aG k)/\(∀L,o=.ok L->∃a n c xs,e=.returned (.slice a n c)/\RowC w.heap.size 60 6 mu w' (.slice a n c) xs/\Its w.heap.size w' xs L/\n=xs.length/\n<=c/\n<=64)/\Same w w'
theorem OpnA.bad{w w':World}{o:Except Nat (List It)}{e:Ending}{k:Nat}(h:o=.error k)(he:e=aG k)(hk:Same w w'):OpnA w w' o e:=
 ⟨λk' h'=>by rw[h]at h';simp only[Except.error.injEq]at h';subst h';exact he,λL h'=>(by rw[h]at h';cases h'),hk⟩
theorem OpnA.good{w w':World}{o:Except Nat (List It)}{e:Ending}{L:List It}(h:o=.ok L){a:Option Addr}{n c:Nat}{xs:List Itv}(he:e=.returned (.slice a n c))(hr:RowC w.heap.size 60 6 mu w' (.slice a n c) xs)(hi:Its w.heap.size w' xs L)(hn:n=xs.length)(hc:n<=c)(ET:n<=64)(hk:Same w w'):OpnA w w' o e:=
 ⟨λk' h'=>(by rw[h]at h';cases h'),λL' h'=>by rw[h]at h';simp only[Except.ok.injEq]at h';subst h';exact⟨a,n,c,xs,he,hr,hi,hn,hc,ET⟩,hk⟩
theorem Gi{m:Mk}{r b y:List Nat}(h:kq m r=some (b,y)):y.length<=r.length/\b.length=m.packed:=by
 unfold kq at h;rw[Js]at h;split at h
 ·rw[ak]at h;obtain⟨h1,h2,h3⟩:=xB h;rw[h2,h3,List.length_drop,List.length_take,List.length_drop];rw[List.length_drop]at h1;omega
 ·rw[bG]at h;cases h
theorem GZ{fs n:Nat}{P R:List Nat}{l:List It}(h:ii R=none):fU fs (n+1) P R l=.error 81:=by rw[fU,h]
theorem Ht{fs n:Nat}{P R R':List Nat}{l:List It}{m:Mk}{at':Nat}(h:ii R=some ((m,at'),R'))(hc:dj m (bM l)≠0):fU fs (n+1) P R l=.error (dj m (bM l)):=by rw[fU,h];simp only;rw[if_pos hc]
theorem JC{fs n:Nat}{P R R':List Nat}{l:List It}{m:Mk}{at':Nat}(h:ii R=some ((m,at'),R'))(hc:dj m (bM l)=0)(ha:at'≠fs-P.length):fU fs (n+1) P R l=.error 81:=by rw[fU,h];simp only;rw[if_neg (by omega),if_pos ha]
theorem FY{fs n:Nat}{P R R':List Nat}{l:List It}{m:Mk}{at':Nat}(h:ii R=some ((m,at'),R'))(hc:dj m (bM l)=0)(ha:at'=fs-P.length)(hp:kq m P=none):fU fs (n+1) P R l=.error 81:=by rw[fU,h];simp only;rw[if_neg (by omega),if_neg (by omega),hp]
theorem C5{fs n:Nat}{P R R':List Nat}{l:List It}{m:Mk}{at':Nat}(h:ii R=some ((m,at'),R'))(hc:dj m (bM l)=0)(ha:at'=fs-P.length){b P':List Nat}(hp:kq m P=some (b,P')):fU fs (n+1) P R l=fU fs n P' R' (l++[⟨m,b⟩]):=by rw[fU,h];simp only;rw[if_neg (by omega),if_neg (by omega),hp]
theorem RowC.off{α:Type}{B t k:Nat}{enc:α->List Value}{w:World}{v:Value}{xs:List α}(h:RowC B t k enc w v xs){g:Nat}{cs:Array Value}{t':Nat}(hb:Blk w g cs t')(ht:t'≠t):v.ownBlock≠some g:=by
 intro e;rcases h.2 with⟨rfl,_⟩ | ⟨g',cap,cur,rfl,_,hg,_⟩
 ·cases e
 ·simp only[Value.ownBlock,Option.some.injEq]at e;subst e;unfold Blk at hb;rw[hb]at hg;simp only[Option.some.injEq,Obj.cells.injEq]at hg;exact ht hg.2.1
structure Qh(w wr:World)(fs:Nat)(o:Except Nat (List It))(left:Nat)(pb rb:Nat)(i:Nat)(v:Value)(xs:List Itv)(L:List It)(P R:List Nat)(ap ar:Option Addr)(cp cr:Nat):Prop where
 row:RowC w.heap.size 60 6 mu wr v xs
 its:Its w.heap.size wr xs L
 len:L.length=i
 pie:Cur w.heap.size wr pb P ap cp
 recs:Cur w.heap.size wr rb R ar cr
 same:Same w wr
 eq:o=fU fs left P R L
 two:pb≠rb
 fit:P.length<=fs
theorem Src.cut8{w:World}{I:Nat->Prop}{b o n c:Nat}{bs:List Nat}(hs:Src w I (.slice (some ⟨b,o,none⟩) n c) bs)(i j:Nat)(Hy:i<=j)(hj:j<=bs.length)(c':Nat):Src w I (.slice (some ⟨b,o+i,none⟩) (j-i) c') ((bs.take j).drop i):=by
 obtain⟨ao,cap,e,h9⟩:=hs;simp only[Value.slice.injEq]at e;obtain⟨rfl,_,rfl⟩:=e;refine⟨_,_,by rw[List.length_drop,List.length_take,Nat.min_eq_left hj],λbm=>?_⟩;have hl:i<j:=by refine Classical.byContradiction (λhc=>bm ?_);exact List.drop_eq_nil_of_le (by rw[List.length_take];omega)
 obtain⟨b',o',e4,h5,h6⟩:=h9 (λe=>by rw[e]at hj;simp at hj;omega);simp only[Option.some.injEq,Addr.mk.injEq,and_true]at e4;obtain⟨rfl,rfl⟩:=e4;refine⟨b,o+i,rfl,h5,λk hk=>?_⟩;rw[List.length_drop,List.length_take]at hk;have:=h6 (i+k) (by omega);rw[List.getElem_drop,List.getElem_take,Nat.add_assoc];exact this
theorem BG{w w3:World}{fs cnt b o c pn:Nat}{P0 R0:List Nat}{o8:Except Nat (List It)}(hk:Same w w3)(h8:o8=fU fs cnt P0 R0 [])(hsp:Src w (λk=>k<w.heap.size) (.slice (some ⟨b,o,none⟩) fs c) P0)(hsr:Src w (λk=>k<w.heap.size) (.slice (some ⟨b,o+fs,none⟩) (pn-fs) (c-fs)) R0)(hl:P0.length=fs/\R0.length=pn-fs)(tK:(∀x∈P0,x<256)/\(∀x∈R0,x<256))(h1:fs<=pn)(h2:pn<=c)(h3:pn<=1048576){wx:World}{pb rb:Nat}(QA:Same w3 wx)(hb1:Blk wx pb #[.slice (some ⟨b,o,none⟩) fs c] 84)(hb2:Blk wx rb #[.slice (some ⟨b,o+fs,none⟩) (pn-fs) (c-fs)] 84)(hn1:w3.heap.size<=pb)(hn2:w3.heap.size<=rb)(bm:pb≠rb):Qh w wx fs o8 cnt pb rb 0 (.slice none 0 0) [] [] P0 R0 (some ⟨b,o,none⟩) (some ⟨b,o+fs,none⟩) c (c-fs):=by have hkk:=Same.trans hk QA;have dA:=hk.size;refine⟨RowC.nil,Its.nil _ _,rfl,⟨by rw[hl.1];exact hb1,by rw[hl.1];exact hsp.kept hkk (λ_ _ _ f=>f),by omega,by omega,tK.1,by omega,by simp⟩,⟨by rw[hl.2];exact hb2,by rw[hl.2];exact hsr.kept hkk (λ_ _ _ f=>f),by omega,by omega,tK.2,by omega,by simp⟩,hkk,h8,bm,by omega⟩
theorem AM(w:World)(x:Itv):aS (w.alloc (.cells #[.int .u16 (x.m.way:Nat),.int .u32 (x.m.sum:Nat),.int .u32 (x.m.packed:Nat),.int .u32 (x.m.size:Nat),.string (bH x.m.name),.slice x.a x.n x.c] 60)) ⟨w.heap.size,0,none⟩ ([x].flatMap mu):=by
 intro j u hj
 match j,hj with
 | 0,hj=>simp[mu]at hj;subst hj;simp[cf]
 | 1,hj=>simp[mu]at hj;subst hj;simp[cf]
 | 2,hj=>simp[mu]at hj;subst hj;simp[cf]
 | 3,hj=>simp[mu]at hj;subst hj;simp[cf]
 | 4,hj=>simp[mu]at hj;subst hj;simp[cf]
 | 5,hj=>simp[mu]at hj;subst hj;simp[cf]
 | j+6,hj=>simp[mu]at hj
theorem Du(w:World)(b o:Nat)(c:Nat)(bs:List Nat)(n:Nat)(hL:n=bs.length)(hs:Src w (fun k=>k<w.heap.size) (.slice (some ⟨b,o,none⟩) n c) bs)(hb:∀x∈bs,x<256)(cD:n≤c)(h1:22≤n)(h2:n≤1048576)(cnt fs:Nat)(he:jP (bs.drop (n-22)) (n-22)=.ok (cnt,fs))(hf:fs≤n-22)(ET:cnt≤64)(hx:Mxl w):
  Calls Tryz.prog 22 #[.slice (some ⟨b,o,none⟩) n c] w λe w'=>OpnA w w' (fU fs cnt (bs.take fs) ((bs.take (n-22)).drop fs) []) e:=by
 have b1:decide ((n:Int)<=1048576)=true:=by simp;omega
 have b2:decide (n<=1048576)=true:=by simp;omega
 have b3:decide ((22:Int)<=(n:Int))=true:=by simp;omega
 have b4:decide (22<=n)=true:=by simp;omega
 obtain⟨p,hp⟩:∃p,p=n-22:=⟨_,rfl⟩
 rw[<-hp]at he hf ⊢;have Lz:(n:Int)-22=(p:Int):=by omega
 have ml:IntKind.i64.wrap (p:Int)=(p:Int):=by rw[IntKind.wrap_i64];omega
 have i1:(0:Int)<=(p:Int):=by omega
 have i2:(p:Int)<=(n:Int):=by omega
 have i3:(n:Int)<=(c:Int):=by omega
 have HO:=bh w (.int .i64 2);have HP:=bh w (.int .i64 81);have EU:(bs.drop p).length=22:=by rw[List.length_drop];omega
 have HSD:Hid (∀c',Src w (λk=>k<w.heap.size) (.slice (some ⟨b,o+p,none⟩) (bs.drop p).length c') (bs.drop p)):=hid (λc'=>by
  have h9:=hs.cut8 p n (by omega) (by omega) c';rw[List.take_of_length_le (by omega)]at h9;rw[EU];rw[show n-p=22 by omega]at h9;exact h9)
 have HE:Hid (∀c',22<=c'->Calls Tryz.prog 42 #[.slice (some ⟨b,o+p,none⟩) 22 c',.int .i64 (p:Nat)] w λe w'=>EndA w w' (jP (bs.drop p) p) e):=hid (λc' h9=>by
  have h8:=Bz w.heap.size w (bs.drop p) (some ⟨b,o+p,none⟩) c' p (HSD.out c') (by omega) (Nat.le_refl _) (λx hx=>hb x (List.mem_of_mem_drop hx)) (by omega) (by omega) (by simp);rw[EU]at h8;exact h8)
 have Jc:n-p=22:=by omega
 have HER:Hid (jP (bs.drop p) p=.ok (cnt,fs)):=he;have HSP:Hid (Src w (λk=>k<w.heap.size) (.slice (some ⟨b,o,none⟩) fs c) (bs.take fs)):=hid (by
  have h9:=hs.cut8 0 fs (by omega) (by omega) c;simpa using h9)
 have HSR:Hid (Src w (λk=>k<w.heap.size) (.slice (some ⟨b,o+fs,none⟩) (p-fs) (c-fs)) ((bs.take p).drop fs)):=hid (hs.cut8 fs p hf (by omega) _);have HBY:Hid (∀x∈bs,x<256):=hb;have HLP:Hid ((bs.take fs).length=fs/\((bs.take p).drop fs).length=p-fs):=hid ⟨by rw[List.length_take];omega,by rw[List.length_drop,List.length_take];omega⟩;have HX:Hid (Mxl w):=hx;have j1:(0:Int)<=(fs:Int):=by omega
 have j2:(fs:Int)<=(p:Int):=by omega
 have j3:(fs:Int)<=(c:Int):=by omega
 have j4:(p:Int)<=(c:Int):=by omega
 have j5:¬c=fs:=by omega
 have WE:fs<=1048576:=by omega
 have Jd:p<=1048576:=by omega
 have Fg:fs<=p:=hf;have Ro:p<=c:=by omega
 obtain⟨P0,SB⟩:∃P,P=bs.take fs:=⟨_,rfl⟩
 obtain⟨R0,RU⟩:∃R,R=(bs.take p).drop fs:=⟨_,rfl⟩
 have HPR:Hid ((∀x∈P0,x<256)/\(∀x∈R0,x<256)):=hid (by
  rw[SB,RU];exact⟨λx hx=>hb x (List.mem_of_mem_take hx),λx hx=>hb x (List.mem_of_mem_take (List.mem_of_mem_drop hx))⟩)
 rw[<-SB]at HSP HLP ⊢;rw[<-RU]at HSR HLP ⊢;obtain⟨o8,OM⟩:∃x,x=fU fs cnt P0 R0 []:=⟨_,rfl⟩
 have HO8:Hid (o8=fU fs cnt P0 R0 []):=OM;rw[<-OM];clear hs hb h1 h2 EU he hp hL SB RU HBY OM hx hf;go_enter Tryz.func22,Tryz.ntmps22;go_wp2_with fail;refine HO.mono ?_;rintro e w1 ⟨rfl,hw1⟩;subst hw1;clear HO;go_wp2_with fail;refine HP.mono ?_;rintro e w2 ⟨rfl,hw2⟩;subst hw2;clear HP;go_wp2_with fail;refine(HE.out _ (by omega)).mono ?_;intro e w3 h3;obtain⟨rfl,hk3⟩:=h3.1 cnt fs HER.out;have HK3:Hid (Same w2 w3):=hk3;clear h3 hk3;go_upto_region 5 with fail
 go_cut [6,7]from 30 to 40 (λz6 z7 wx=>∃pb rb,z6=.pointer (some ⟨pb,0,none⟩)/\z7=.pointer (some ⟨rb,0,none⟩)/\Hid (Qh w2 wx fs o8 cnt pb rb 0 (.slice none 0 0) [] [] P0 R0 (some ⟨b,o,none⟩) (some ⟨b,o+fs,none⟩) c (c-fs)))
 case first=>
  go_region
  ·go_wp2_with fail;go_meet
   refine⟨_,_,rfl,rfl,hid (BG HK3.out HO8.out HSP.out HSR.out HLP.out HPR.out Fg Ro Jd ((((Kept.refl _ w3).alloc _).alloc _).drew) ?_ ?_ (Nat.le_refl _) (Nat.le_succ _) (by omega))⟩
   ·exact(Blk.new w3 _ _).kept (show Same _ _ from((Kept.refl _ _).alloc _).drew) (λf=>f)
   ·have h9:=Blk.new (w3.alloc (.cells #[.slice (some ⟨b,o,none⟩) fs c] 84)) #[.slice (some ⟨b,o+fs,none⟩) (p-fs) (c-fs)] 84;rw[World.size_alloc]at h9;exact h9
  ·go_wp2_with fail;go_meet
   refine⟨_,_,rfl,rfl,hid (BG HK3.out HO8.out HSP.out HSR.out HLP.out HPR.out Fg Ro Jd ((((Kept.refl _ w3).alloc _).alloc _).drew) ?_ ?_ (Nat.le_succ _) (Nat.le_refl _) (by omega))⟩
   ·have h9:=Blk.new (w3.alloc (.cells #[.slice (some ⟨b,o+fs,none⟩) (p-fs) (c-fs)] 84)) #[.slice (some ⟨b,o,none⟩) fs c] 84;rw[World.size_alloc]at h9;exact h9
   ·exact(Blk.new w3 _ _).kept (show Same _ _ from((Kept.refl _ _).alloc _).drew) (λf=>f)
 case rest=>
  obtain⟨pb,rb,rfl,rfl,HI0⟩:=hcut;clear HSD HE HSP HSR HLP HPR HO8 HER HK3 j1 j2 j3 j4 j5 i1 i2 i3 Lz ml Jc cD Ro Jd Fg;go_wp2_with fail;go_loopg [8,42] cnt (λqq z8 z42 wr=>∃(i:Nat) (xs:List Itv) (L:List It) (P R:List Nat) (ap ar:Option Addr) (cp cr:Nat),z42=.int .i64 (i:Nat)/\i<=cnt/\cnt-i<=qq/\Hid (Qh w2 wr fs o8 (cnt-i) pb rb i z8 xs L P R ap ar cp cr))
  case atStart=>exact⟨0,[],[],P0,R0,_,_,_,_,rfl,by omega,by omega,HI0⟩
  case round=>
   clear HI0;obtain⟨i,xs,L,P,R,ap,ar,cp,cr,rfl,hi1,Lv,HI⟩:=hrel;obtain⟨v0,tJ⟩:∃v,v=u8:=⟨_,rfl⟩
   rw[<-tJ]at HI;rw[<-tJ];clear tJ;obtain⟨a0,c0,tJ,_,_,mj,_⟩:=HI.out.row.shape;have sq:xs.length=i:=(by rw[HI.out.its.1,HI.out.len]);rw[sq]at tJ mj;subst tJ;have HXL:Hid (xs.length=i):=sq;obtain⟨np,Jc⟩:∃n,n=P.length:=⟨_,rfl⟩
   obtain⟨nr,NN⟩:∃n,n=R.length:=⟨_,rfl⟩
   have HNP:Hid (np=P.length/\nr=R.length):=hid ⟨Jc,NN⟩;have XN:np<=fs:=(by rw[Jc];exact HI.out.fit);clear Jc NN sq;by_cases hi:i<cnt
   ·have nM:decide (i<cnt)=true:=(by simp;omega);obtain⟨k,hk⟩:∃k,cnt-i=k+1:=⟨cnt-i-1,by omega⟩
    have HLF:Hid (cnt-i=k+1/\cnt-(i+1)=k):=hid ⟨hk,by omega⟩;have EP:IntKind.i64.wrap ((i:Int)+1)=((i+1:Nat):Int):=(by rw[IntKind.wrap_i64];omega);have HEQ:Hid (o8=fU fs (k+1) P R L):=hid (by rw[<-hk];exact HI.out.eq);have H1:=Jz w2.heap.size wr rb R ar cr HI.out.recs;clear hk;go_wp2_with fail;refine H1.mono ?_;intro e w4 h4;cases ht:ii R with
    | none=>
     obtain⟨rfl,hk4⟩:=h4.2 ht;have HF:Hid (OpnA w2 w4 o8 (aG 81)):=hid (OpnA.bad (by rw[HEQ.out];exact GZ ht) rfl (HI.out.same.then hk4 (λx hx e=>by have:=HI.out.recs.new;omega)));clear h4 hk4 ht H1;unfold aG;go_wp2_with fail;exact⟨rfl,HF.out⟩
    | some q=>
     obtain⟨⟨m,at'⟩,R'⟩:=q;obtain⟨ar',cr',rfl,sB,hnb,hat,lq,hk4⟩:=h4.1 m at' R' ht;have HT:Hid (ii R=some ((m,at'),R')):=ht;have HM:Hid (gN m/\(∀b∈m.name,b<256)):=hid ⟨sB,hnb⟩;have ID:(Value.slice a0 i c0).ownBlock≠some rb:=HI.out.row.off HI.out.recs.blk (by decide);have HR4:Hid (RowC w2.heap.size 60 6 mu w4 (.slice a0 i c0) xs):=hid (HI.out.row.kept hk4 (λj e f=>ID (by rw[e,f])));have HI4:Hid (Its w2.heap.size w4 xs L):=hid (HI.out.its.kept hk4 (λx hx e=>by have:=HI.out.recs.new;omega));have HP4:Hid (Cur w2.heap.size w4 pb P ap cp):=hid (HI.out.pie.kept hk4 HI.out.two (λx hx e=>by have:=HI.out.recs.new;omega));have HC4:Hid (Cur w2.heap.size w4 rb R' ar' cr'):=lq;have HK4:Hid (Same w2 w4):=hid (HI.out.same.then hk4 (λx hx e=>by have:=HI.out.recs.new;omega));obtain⟨wA,pN⟩:∃W,W=w4.alloc (.cells #[.int .u16 (m.way:Nat),.int .u32 (m.sum:Nat),.int .u32 (m.packed:Nat),.int .u32 (m.size:Nat),.string (bH m.name)] 49):=⟨_,rfl⟩
     obtain⟨lb,pK⟩:∃b,b=w4.heap.size:=⟨_,rfl⟩
     have HLA:Hid (LabBk wA lb m):=hid (by rw[pN,pK];exact Blk.new w4 _ _);have HKA:Hid (Same w4 wA):=hid (by rw[pN];exact(Kept.refl _ w4).alloc _);have HCL:=qY wA m a0 i c0 _ _ (Itms.ofRow (HR4.out.kept HKA.out (λ_ _ f=>f)) HXL.out.symm) (by omega) hnb (λj hj=>HI4.out.nam j (by have:=HXL.out;omega)) (HX.out.kept (Same.trans HK4.out HKA.out) (λf=>f));have Qc:jK (λj=>(xs.getD j default).m) i=bM L:=(by have h9:=HI4.out.names;rw[HXL.out]at h9;exact h9);rw[Qc]at HCL;obtain⟨Ua,Ux,TT,Pc,PK⟩:=HLA.out.cells;obtain⟨ck,hck⟩:∃x,x=dj m (bM L):=⟨_,rfl⟩
     rw[<-hck]at HCL;have HCK:Hid (ck=dj m (bM L)):=hck;unfold lA at HCL ⊢;clear h4 hk4 ht H1 sB hnb ID lq Qc hck;go_wp2_with fail;rw[<-pN,<-pK];clear pN pK;refine HCL.mono ?_;intro e w5 h5;obtain⟨Q4,Qw,hk5⟩:=h5;have HK5:Hid (Same w4 w5):=hid (Same.trans HKA.out hk5);by_cases hz:ck=0
     ·have Q4:=Q4 hz;subst Q4;have HZ:Hid (dj m (bM L)=0):=hid (by rw[<-HCK.out];exact hz);have HL5:Hid (LabBk w5 lb m):=hid (HLA.out.kept hk5);have HP5:Hid (Cur w2.heap.size w5 pb P ap cp):=hid (HP4.out.kept HK5.out (λf=>f) (λ_ _ f=>f));obtain⟨d0,d1,d2,d3,d4⟩:=HL5.out.cells;have p0:w5.cell? ⟨pb,0,none⟩=some (.slice ap np cp):=(by have h9:=HP5.out.blk.cell 0;rw[HNP.out.1];simpa using h9);obtain⟨dz,Cx⟩:∃d,d=fs-np:=⟨_,rfl⟩
      have Tx:(fs:Int)-(np:Int)=(dz:Int):=(by omega);have ZV:IntKind.i64.wrap (dz:Int)=(dz:Int):=(by rw[IntKind.wrap_i64];omega);have Zw:IntKind.u32.wrap (dz:Int)=(dz:Int):=(by rw[IntKind.wrap_u32];omega);have HDZ:Hid (dz=fs-P.length):=hid (by rw[<-HNP.out.1];exact Cx);clear Qw hk5 HCL hz HCK Ua Ux TT Pc PK Cx HLA;by_cases ha:at'=dz
      ·have Fa:((at':Int)==(dz:Int))=true:=(by simp;omega);have HA:Hid (at'=fs-P.length):=hid (by rw[<-HDZ.out];exact ha);have HO:=bh w5 (.int .i64 81);have HPI:=Km w2.heap.size w5 pb m P ap cp HP5.out HM.out.1 HM.out.2 (iX HZ.out).2.2.2.2.1;unfold lA at HPI;clear ha hat;go_wp2_with fail;refine HO.mono ?_;rintro e w6 ⟨rfl,hw6⟩;subst hw6;clear HO p0;go_wp2_with fail;refine HPI.mono ?_;intro e w7 h7;cases A3:kq m P with
       | none=>
        obtain⟨rfl,dk⟩:=h7.2 A3;have HF:Hid (OpnA w2 w7 o8 (aG 81)):=hid (OpnA.bad (by rw[HEQ.out];exact FY HT.out HZ.out HA.out A3) rfl ((Same.trans HK4.out HK5.out).then dk (λx hx e=>by have:=HP5.out.new;omega)));clear h7 dk A3 HPI;unfold aG;go_wp2_with fail;exact⟨rfl,HF.out⟩
       | some q=>
        obtain⟨bb,P'⟩:=q;obtain⟨v7,ap',cp',rfl,htk,lq,dk⟩:=h7.1 bb P' A3;obtain⟨va,vc,N4⟩:=htk.shp;subst N4;have HTK:Hid (Tkn w2.heap.size w7 (.slice va m.packed vc) m.packed bb):=htk;have HC7:Hid (Cur w2.heap.size w7 pb P' ap' cp'):=lq;have ID:(Value.slice a0 i c0).ownBlock≠some pb:=(HR4.out.kept HK5.out (λ_ _ f=>f)).off HP5.out.blk (by decide);have HR7:Hid (RowC w2.heap.size 60 6 mu w7 (.slice a0 i c0) xs):=hid ((HR4.out.kept HK5.out (λ_ _ f=>f)).kept dk (λj e f=>ID (by rw[e,f])));have HI7:Hid (Its w2.heap.size w7 xs L):=hid ((HI4.out.kept HK5.out (λ_ _ f=>f)).kept dk (λx hx e=>by have:=HP5.out.new;omega));have HRC7:Hid (Cur w2.heap.size w7 rb R' ar' cr'):=hid ((HC4.out.kept HK5.out (λf=>f) (λ_ _ f=>f)).kept dk (λe=>HI.out.two e.symm) (λx hx e=>by have:=HP5.out.new;omega));have HK7:Hid (Same w2 w7):=hid ((Same.trans HK4.out HK5.out).then dk (λx hx e=>by have:=HP5.out.new;omega));have HEQ7:Hid (o8=fU fs k P' R' (L++[⟨m,bb⟩])):=hid (by rw[HEQ.out];exact C5 HT.out HZ.out HA.out A3);have HFIT:Hid (P'.length<=fs):=hid (Nat.le_trans (Gi A3).1 HI.out.fit);have XE:i<=64:=(by omega);unfold jr;clear h7 htk lq dk A3 HPI ID d0 d1 d2 d3 d4;go_wp2_with (at_builtin;refine dW _ mu 6 pV (by decide) w2.heap.size 57 60 (.agg #[.int .u16 0,.int .u32 0,.int .u32 0,.int .u32 0,.string ⟨#[]⟩,.slice none 0 0]) 56 Tryz.underlying57 Tryz.infoItem rfl (by decide) rfl (.tmp 63) (.tmp 67) rfl (.slice a0 i c0) xs rfl (HR7.out.kept (show Same _ _ from(Kept.refl _ _).alloc _) (λ_ _ f=>f)) ⟨w7.heap.size,0,none⟩ 1 1 [⟨m,va,m.packed,vc⟩] rfl rfl (AM w7 ⟨m,va,m.packed,vc⟩) (by have:=HXL.out;simp;omega) (by have:=HK7.out.size;simp;omega) ?_;intro v8 w8 hr8 Lr);obtain⟨wB,yt⟩:∃W,W=w7.alloc (.cells #[.int .u16 (m.way:Nat),.int .u32 (m.sum:Nat),.int .u32 (m.packed:Nat),.int .u32 (m.size:Nat),.string (bH m.name),.slice va m.packed vc] 60):=⟨_,rfl⟩
        have Ia:wB.grownBy w8 (Value.slice a0 i c0).ownBlock:=(by rw[yt];exact Lr);have vt:Same w7 wB:=(by rw[yt];exact(Kept.refl _ w7).alloc _);have hk8:Kept (λk=>(Value.slice a0 i c0).ownBlock=some k) wB w8:=(Kept.refl _ wB).grown Ia (λk e=>.inl e);have ER:∀x,x<w2.heap.size->¬(Value.slice a0 i c0).ownBlock=some x:=λx hx e=>by have:=HR7.out.ge e;omega
        have HF:Hid (Qh w2 w8 fs o8 (cnt-(i+1)) pb rb (i+1) v8 (xs++[⟨m,va,m.packed,vc⟩]) (L++[⟨m,bb⟩]) P' R' ap' ar' cp' cr'):=hid (by
         refine⟨hr8,?_,by rw[List.length_append,HI.out.len];rfl,?_,?_,(Same.trans HK7.out vt).then hk8 ER,by rw[HLF.out.2];exact HEQ7.out,HI.out.two,HFIT.out⟩
         ·refine((HI7.out.kept vt (λ_ _ f=>f)).kept hk8 ER).snoc ?_;exact⟨rfl,(HTK.out.src.kept vt (λ_ _ _ f=>f)).kept hk8 (λx hx _=>ER x hx),HTK.out.len.symm,HTK.out.byte,HM.out.2,HM.out.1,HTK.out.len,⟨_,HZ.out⟩,λe=>HTK.out.adr m.packed vc (by show Value.slice va m.packed vc=_;rw[show va=none from e])⟩
         ·refine(HC7.out.kept vt (λf=>f) (λ_ _ f=>f)).kept hk8 (λe=>?_) ER;exact(HR7.out.off HC7.out.blk (by decide)) e
         ·refine(HRC7.out.kept vt (λf=>f) (λ_ _ f=>f)).kept hk8 (λe=>?_) ER;exact(HR7.out.off HRC7.out.blk (by decide)) e)
        clear hr8 Lr yt Ia vt hk8 ER;go_wp2_with fail;go_roundg (gk-1)
        case measure=>omega
        case rel=>exact⟨i+1,_,_,_,_,_,_,_,_,by go_num,by omega,by omega,HF⟩
      ·have Fa:((at':Int)==(dz:Int))=false:=(by simp;omega);have HO:=aL w5 81;have HF:Hid (OpnA w2 w5 o8 (aG 81)):=hid (OpnA.bad (by rw[HEQ.out];exact JC HT.out HZ.out (by rw[<-HDZ.out];exact ha)) rfl (Same.trans HK4.out HK5.out));clear ha;go_wp2_with fail;refine HO.mono ?_;rintro e w6 ⟨rfl,hw6⟩;subst hw6;clear HO;unfold aG;go_wp2_with fail;exact⟨rfl,HF.out⟩
     ·have Qw:=Qw hz;subst Qw;have HF:Hid (OpnA w2 w5 o8 (aG ck)):=hid (OpnA.bad (by rw[HEQ.out,HCK.out];exact Ht HT.out (by rw[<-HCK.out];exact hz)) rfl (Same.trans HK4.out HK5.out));clear Q4 hk5 HCL hz Ua Ux TT Pc PK;unfold aG;go_wp2_with fail;exact⟨rfl,HF.out⟩
   ·have nM:decide (i<cnt)=false:=(by simp;omega);obtain rfl:i=cnt:=(by omega);have HEQ:Hid (o8=if np=0/\nr=0 then .ok L else .error 81):=hid (by rw[HI.out.eq,Nat.sub_self,fU,HNP.out.1,HNP.out.2]);have p0:wr.cell? ⟨pb,0,none⟩=some (.slice ap np cp):=(by have h9:=HI.out.pie.blk.cell 0;rw[HNP.out.1];simpa using h9);have r0:wr.cell? ⟨rb,0,none⟩=some (.slice ar nr cr):=(by have h9:=HI.out.recs.blk.cell 0;rw[HNP.out.2];simpa using h9);by_cases yO:np=0
    ·have q1:((np:Int)==0)=true:=(by simp;omega);by_cases pM:nr=0
     ·have q2:((nr:Int)==0)=true:=(by simp;omega);have HO:=bh wr (.int .i64 81);have HE2:Hid (o8=.ok L):=hid (by rw[HEQ.out,if_pos ⟨yO,pM⟩]);clear yO pM;go_wp2_with fail;refine HO.mono ?_;rintro e w6 ⟨rfl,hw6⟩;subst hw6;clear HO;go_wp2_with fail;go_ret;exact OpnA.good HE2.out rfl HI.out.row HI.out.its HXL.out.symm mj (by omega) HI.out.same
     ·have q2:((nr:Int)==0)=false:=(by simp;omega);have HO:=aL wr 81;have HF:Hid (OpnA w2 wr o8 (aG 81)):=hid (OpnA.bad (by rw[HEQ.out,if_neg (λh=>pM h.2)]) rfl HI.out.same);clear pM yO;go_wp2_with fail;refine HO.mono ?_;rintro e w6 ⟨rfl,hw6⟩;subst hw6;clear HO;unfold aG;go_wp2_with fail;exact⟨rfl,HF.out⟩
    ·have q1:((np:Int)==0)=false:=(by simp;omega);have HO:=aL wr 81;have HF:Hid (OpnA w2 wr o8 (aG 81)):=hid (OpnA.bad (by rw[HEQ.out,if_neg (λh=>yO h.1)]) rfl HI.out.same);clear yO;go_wp2_with fail;refine HO.mono ?_;rintro e w6 ⟨rfl,hw6⟩;subst hw6;clear HO;unfold aG;go_wp2_with fail;exact⟨rfl,HF.out⟩
def vT(D:List (List Nat×List Nat))(o:Except Nat (List (List Nat×List Nat))):Except Nat (List (List Nat×List Nat)):=match o with
 | .error e=>.error e
 | .ok r=>.ok (D++r)
theorem G8{D:List (List Nat×List Nat)}{L:List It}{j k:Nat}{y:It}(h:L[j]? = some y)(hu:df y=.error k):vT D (io (L.drop j))=.error k:=by have hj:=(List.getElem?_eq_some_iff.1 h).1;have e:=(List.getElem?_eq_some_iff.1 h).2;rw[List.drop_eq_getElem_cons hj,e,io,hu];rfl
theorem Dx{D:List (List Nat×List Nat)}{L:List It}{j:Nat}{y:It}{d:List Nat}(h:L[j]? = some y)(hu:df y=.ok d):vT D (io (L.drop j))=vT (D++[(y.lab.name,d)]) (io (L.drop (j+1))):=by
 have hj:=(List.getElem?_eq_some_iff.1 h).1;have e:=(List.getElem?_eq_some_iff.1 h).2;rw[List.drop_eq_getElem_cons hj,e,io,hu];simp only;cases io (L.drop (j+1)) with
 | error e=>rfl
 | ok r=>simp[vT]
def mS(p:List Nat×List Nat):En:=⟨bH p.1,bH p.2⟩
def AllA(w w':World)(o:Except Nat (List (List Nat×List Nat)))(e:Ending):Prop:=
 (∀k,o=.error k->e=aG k)/\(∀D,o=.ok D->∃a n c,e=.returned (.slice a n c)/\RowC w.heap.size 42 2 yL w' (.slice a n c) (D.map mS)/\n=D.length)/\Same w w'
theorem AllA.bad{w w':World}{o:Except Nat (List (List Nat×List Nat))}{e:Ending}{k:Nat}(h:o=.error k)(he:e=aG k)(hk:Same w w'):AllA w w' o e:=
 ⟨λn h'=>by rw[h]at h';simp only[Except.error.injEq]at h';subst h';exact he,λd h'=>(by rw[h]at h';cases h'),hk⟩
structure Tq(w wr:World)(L:List It)(i:Nat)(v:Value)(D:List (List Nat×List Nat)):Prop where
 row:RowC w.heap.size 42 2 yL wr v (D.map mS)
 len:D.length=i
 same:Same w wr
 eq:io L=vT D (io (L.drop i))
theorem zR(w:World)(y:En):aS (w.alloc (.cells #[.string y.n,.string y.d] 42)) ⟨w.heap.size,0,none⟩ ([y].flatMap yL):=by
 intro j u hj
 match j,hj with
 | 0,hj=>simp[yL]at hj;subst hj;simp[cf]
 | 1,hj=>simp[yL]at hj;subst hj;simp[cf]
 | j+2,hj=>simp[yL]at hj
theorem rV(N:Nat)(w:World)(a:Option Addr)(n c:Nat)(xs:List Itv)(L:List It)(hrow:RowC N 60 6 mu w (.slice a n c) xs)(Il:Its N w xs L)(hn:n=xs.length)(ET:n≤64)
  (hU:∀(j:Nat) (x:Itv) (y:It) (wx:World),xs[j]? = some x->L[j]? = some y->Same w wx->Calls Tryz.prog 30 #[.agg (jr x.m (.slice x.a x.n x.c))] wx λe w'=>UnpZ wx w' (df y) e):
  Calls Tryz.prog 25 #[.slice a n c] w λe w'=>AllA w w' (io L) e:=by
 have HU:Hid _:=hid hU;have HROW:Hid (RowC N 60 6 mu w (.slice a n c) xs):=hrow;have HITS:Hid (Its N w xs L):=Il;have HN:Hid (n=xs.length/\n=L.length):=hid ⟨hn,by rw[hn];exact Il.1⟩;clear hU hrow Il hn;go_enter Tryz.func25,Tryz.ntmps25;go_wp2_with fail;go_loopg [3,8] n (λqq z3 z8 wr=>∃(i:Nat) (D:List (List Nat×List Nat)),z8=.int .i64 (i:Nat)/\i<=n/\n-i<=qq/\Hid (Tq w wr L i z3 D))
 case atStart=>exact⟨0,[],rfl,by omega,by omega,hid ⟨RowC.nil,rfl,Kept.refl _ _,by simp[vT];cases io L<;>rfl⟩⟩
 case round=>
  obtain⟨i,D,rfl,hi1,Lv,HI⟩:=hrel;obtain⟨v0,tJ⟩:∃v,v=u3:=⟨_,rfl⟩
  rw[<-tJ]at HI;rw[<-tJ];clear tJ;obtain⟨a0,c0,tJ,_⟩:=HI.out.row.shape;rw[List.length_map,HI.out.len]at tJ;subst tJ;by_cases hi:i<n
  ·have nM:decide (i<n)=true:=(by simp;omega);have hx:=List.getElem?_eq_getElem (l:=xs) (i:=i) (by have:=HN.out;omega);have hy:=List.getElem?_eq_getElem (l:=L) (i:=i) (by have:=HN.out;omega);obtain⟨x,ED⟩:∃x,x=xs[i]'(by have:=HN.out;omega):=⟨_,rfl⟩
   obtain⟨y,Pw⟩:∃y,y=L[i]'(by have:=HN.out;omega):=⟨_,rfl⟩
   rw[<-ED]at hx;rw[<-Pw]at hy;obtain⟨g,cap,hv,_,hc⟩:=HROW.out.at8 pV i (by have:=HN.out;omega);rw[<-ED]at hc;simp only[Value.slice.injEq]at hv;have fA:=hv.1;clear hv;subst fA;have rN:∀k u,k<6->(mu x)[k]? = some u->wr.cell? ⟨g,i*6+k,none⟩=some u:=λk u h1 h2=>HI.out.same.cell ((hc k h1).trans h2) (λf=>f)
   have k0:=rN 0 _ (by decide) rfl;have k1:=rN 1 _ (by decide) rfl;have k2:=rN 2 _ (by decide) rfl;have k3:=rN 3 _ (by decide) rfl;have k4:=rN 4 _ (by decide) rfl;have k5:=rN 5 _ (by decide) rfl;rw[Nat.add_zero]at k0;have EP:IntKind.i64.wrap ((i:Int)+1)=((i+1:Nat):Int):=(by rw[IntKind.wrap_i64];omega);have i1:(0:Int)<=(i:Int):=(by omega);have i2:(i:Int)<(n:Int):=(by omega);have HY:Hid (L[i]? = some y):=hy;have HXL:Hid (x.m=y.lab):=hid (HITS.out.2 i x y hx hy).lab;obtain⟨wA,pN⟩:∃W,W=wr.alloc (.cells (jr x.m (.slice x.a x.n x.c)) 60):=⟨_,rfl⟩
   obtain⟨xb,ie⟩:∃b,b=wr.heap.size:=⟨_,rfl⟩
   have HKA:Hid (Same wr wA):=hid (by rw[pN];exact(Kept.refl _ wr).alloc _);have HXA:Hid (Blk wA xb (jr x.m (.slice x.a x.n x.c)) 60):=hid (by rw[pN,ie];exact Blk.new wr _ _);have HC:Hid (∀wx,Same wA wx->Calls Tryz.prog 30 #[.agg (jr x.m (.slice x.a x.n x.c))] wx λe w'=>UnpZ wx w' (df y) e):=hid (λwx hk=>HU.out i x y wx hx hy (Same.trans HI.out.same (Same.trans HKA.out hk)));clear ED Pw hx hy hc rN;unfold jr at pN HC HXA;have q0:wA.cell? ⟨xb,0,none⟩=some (.int .u16 (x.m.way:Nat)):=HXA.out.cell 0;have q1:wA.cell? ⟨xb,1,none⟩=some (.int .u32 (x.m.sum:Nat)):=HXA.out.cell 1;have q2:wA.cell? ⟨xb,2,none⟩=some (.int .u32 (x.m.packed:Nat)):=HXA.out.cell 2;have q3:wA.cell? ⟨xb,3,none⟩=some (.int .u32 (x.m.size:Nat)):=HXA.out.cell 3;have q4:wA.cell? ⟨xb,4,none⟩=some (.string (bH x.m.name)):=HXA.out.cell 4;have q5:wA.cell? ⟨xb,5,none⟩=some (.slice x.a x.n x.c):=HXA.out.cell 5;cases hu:df y with
   | error k=>
    rw[hu]at HC;have HE:Hid (io L=.error k):=hid (by rw[HI.out.eq];exact G8 HY.out hu);clear hu;go_wp2_with fail;rw[<-pN,<-ie];clear pN ie;go_region_dies
    all_goals
     refine(HC.out _ ((Kept.refl _ wA).drew)).mono ?_;intro e w4 h4;obtain rfl:=h4.2.1 k rfl;exact⟨rfl,AllA.bad HE.out rfl (Same.trans HI.out.same (Same.trans HKA.out (Same.trans ((Kept.refl _ wA).drew) h4.2.2)))⟩
   | ok d=>
    rw[hu]at HC;have HE:Hid (io L=vT (D++[(y.lab.name,d)]) (io (L.drop (i+1)))):=hid (by rw[HI.out.eq];exact Dx HY.out hu);clear hu;go_wp2_with fail;rw[<-pN,<-ie];clear pN ie;have HSZ:Hid (w.heap.size<=wr.heap.size/\xb<wA.heap.size):=hid ⟨HI.out.same.size,HXA.out.lt⟩;have HOX:Hid ((Value.slice a0 i c0).ownBlock≠some xb):=hid ((HI.out.row.kept HKA.out (λ_ _ f=>f)).off HXA.out (by decide));go_region_held3 (λw'=>w'.cell? ⟨xb,0,none⟩=some (.int .u16 (x.m.way:Nat))/\w'.cell? ⟨xb,1,none⟩=some (.int .u32 (x.m.sum:Nat))/\w'.cell? ⟨xb,2,none⟩=some (.int .u32 (x.m.packed:Nat))/\w'.cell? ⟨xb,3,none⟩=some (.int .u32 (x.m.size:Nat))/\w'.cell? ⟨xb,4,none⟩=some (.string (bH x.m.name))/\w'.cell? ⟨xb,5,none⟩=some (.slice x.a x.n x.c))
     (first
      | (go_split_ands;exact⟨hk5.cell (by assumption) HOX.out,hk5.cell (by assumption) HOX.out,hk5.cell (by assumption) HOX.out,hk5.cell (by assumption) HOX.out,hk5.cell (by assumption) HOX.out,hk5.cell (by assumption) HOX.out⟩)
      | (go_split_ands;exact⟨hk4.cell (by assumption) (λf=>f),hk4.cell (by assumption) (λf=>f),hk4.cell (by assumption) (λf=>f),hk4.cell (by assumption) (λf=>f),hk4.cell (by assumption) (λf=>f),hk4.cell (by assumption) (λf=>f)⟩)
      | go_keep)
     (first
      | (go_at_call 30;refine(HC.out _ (by first | exact(Kept.refl _ _).drew | exact Kept.refl _ _ | exact(Kept.refl _ _).drewN _)).mono ?_;intro e w4 h4;obtain rfl:=h4.1 d rfl;have hk4:=h4.2.2;clear h4)
      | (have hw4:Same wA w4:=Same.trans ((Kept.refl _ wA).drew) hk4;refine iJ yL 2 Fo w.heap.size 22 42 (.agg #[.string ⟨#[]⟩,.string ⟨#[]⟩]) 32 Tryz.underlying22 Tryz.infoEntry rfl (by decide) (by rfl) (.tmp 12) (.tmp 19) (by rfl) (.slice a0 i c0) (D.map mS) (by rfl) (((HI.out.row.kept HKA.out (λ_ _ f=>f)).kept hw4 (λ_ _ f=>f)).kept (show Same _ _ from(Kept.refl _ _).alloc _) (λ_ _ f=>f)) ⟨w4.heap.size,0,none⟩ 1 1 [⟨bH x.m.name,bH d⟩] (by rfl) (by rfl) (zR w4 ⟨bH x.m.name,bH d⟩) (by rw[List.length_map,HI.out.len];simp;omega) (by have:=HSZ.out;have:=HKA.out.size;have:=hw4.size;simp;omega) ?_;intro v5 w5 hr5 ef;have hk5:Kept (λk=>(Value.slice a0 i c0).ownBlock=some k) (w4.alloc (.cells #[.string (bH x.m.name),.string (bH d)] 42)) w5:=(Kept.refl _ _).grown ef (λk e=>.inl e);clear ef))
    all_goals
     have HF:Hid (Tq w w5 L (i+1) v5 (D++[(y.lab.name,d)])):=hid ⟨by rw[List.map_append];show RowC _ _ _ _ _ _ (D.map mS++[mS (y.lab.name,d)]);rw[<-HXL.out];exact hr5,by rw[List.length_append,HI.out.len];rfl,(Same.trans HI.out.same (Same.trans HKA.out (Same.trans ((Kept.refl _ wA).drew) (Same.trans hk4 (show Same w4 (w4.alloc (.cells #[.string (bH x.m.name),.string (bH d)] 42)) from(Kept.refl _ _).alloc _))))).then hk5 (λx hx e=>by have:=HI.out.row.ge e;omega),HE.out⟩;clear hr5 hk5 hk4;go_wp2_with fail;go_roundg (gk-1)
     case measure=>omega
     case rel=>exact⟨i+1,_,by go_num,by omega,by omega,HF⟩
  ·have nM:decide (i<n)=false:=(by simp;omega);obtain rfl:i=n:=(by omega);go_wp2_with fail;go_ret;have h9:=HI.out.eq;rw[List.drop_eq_nil_of_le (by have:=HN.out;omega)]at h9;refine⟨λk e=>(by rw[h9]at e;cases e),λD' e=>?_,HI.out.same⟩;rw[h9]at e;simp only[vT,io,List.append_nil,Except.ok.injEq]at e;subst e;exact⟨_,_,_,rfl,HI.out.row,HI.out.len.symm⟩
theorem Jn{r:List Nat}{p n f:Nat}(h:jP r p=.ok (n,f)):f<=p/\n<=64:=by
 unfold jP at h;split at h
 ·cases h
 ·split at h
  ·cases h
  ·split at h
   ·cases h
   ·simp only[Except.ok.injEq,Prod.mk.injEq]at h;omega
theorem qo(w:World)(a:Option Addr)(n c:Nat)(bs:List Nat)(hs:Src w (fun k=>k<w.heap.size) (.slice a n c) bs)(hL:n=bs.length)(hb:∀x∈bs,x<256)(cD:n≤c)(hn:n≤100000000)(hx:Mxl w):
  Calls Tryz.prog 22 #[.slice a n c] w λe w'=>OpnA w w' (fV bs) e:=by
 by_cases h1:1048576<n
 ·refine(Ex w a n c h1 hn).mono ?_;rintro e w' ⟨he,hk⟩;exact OpnA.bad (by unfold fV;rw[if_pos (by omega)]) he hk
 ·by_cases h2:n<22
  ·refine(AQ w a n c h2).mono ?_;rintro e w' ⟨he,hk⟩;exact OpnA.bad (by unfold fV;rw[if_neg (by omega),if_pos (by omega)]) he hk
  ·obtain⟨b,o,ha⟩:∃b o,a=some ⟨b,o,none⟩:=by
    obtain⟨ao,cap,e,h9⟩:=id hs;simp only[Value.slice.injEq]at e;obtain⟨b,o,e4,_⟩:=h9 (λe=>by rw[e]at hL;simp at hL;omega);exact⟨b,o,by rw[e.1];exact e4⟩
   subst ha;have e1:fV bs=match jP (bs.drop (n-22)) (n-22) with
     | .error e=>.error e
     | .ok x=>fU x.2 x.1 (bs.take x.2) ((bs.take (n-22)).drop x.2) []:=by
    unfold fV;rw[if_neg (by omega),if_neg (by omega),hL];rfl
   cases he:jP (bs.drop (n-22)) (n-22) with
   | error x=>
    rw[he]at e1;refine(FQ w b o c bs n hL hs hb cD (by omega) (by omega) x he).mono ?_;rintro e w' ⟨he,hk⟩;exact OpnA.bad e1 he hk
   | ok x=>
    obtain⟨cnt,fs⟩:=x;rw[he]at e1;obtain⟨h3,h4⟩:=Jn he;rw[e1];exact Du w b o c bs n hL hs hb cD (by omega) (by omega) cnt fs he h3 h4 hx
theorem sJ{N:Nat}{w:World}{x:Itv}{y:It}(h:ItAt N w x y)(hz:y.lab.way=0):Calls Tryz.prog 30 #[.agg (jr x.m (.slice x.a x.n x.c))] w λe w'=>UnpZ w w' (df y) e:=by
 rw[h.lab];obtain⟨a,ha⟩:=h.ck;have hl:y.bytes.length<=100000:=by have:=(iX ha).2.2.2.2.1;have:=h.pk;omega
 by_cases hq:more 0 y.bytes=y.lab.sum
 ·have e:df y=.ok y.bytes:=(by unfold df;rw[if_neg (by omega),if_pos hq]);rw[e];exact uO w y.lab x.a x.n x.c _ y.bytes h.src h.byte hl hz hq
 ·have e:df y=.error 83:=(by unfold df;rw[if_neg (by omega),if_neg hq]);rw[e];exact vS w y.lab x.a x.n x.c _ y.bytes h.src h.byte hl hz hq
def UnpOk(w:World)(L:List It):Prop:=∀(N:Nat) (wx:World) (x:Itv) (y:It),y∈L->ItAt N wx x y->Same w wx->Calls Tryz.prog 30 #[.agg (jr x.m (.slice x.a x.n x.c))] wx λe w'=>UnpZ wx w' (df y) e
theorem UnpOk.zero(w:World)(L:List It)(h:∀y∈L,y.lab.way=0):UnpOk w L:=λ_ _ _ y hy hi _=>sJ hi (h y hy)
noncomputable def EY (bs:List Nat):Except Nat (List (List Nat×List Nat)):=match fV bs with
 | .error e=>.error e
 | .ok L=>io L
def Vd(w w':World)(o:Except Nat (List (List Nat×List Nat)))(e:Ending):Prop:=
 (∀k,o=.error k->e=.returned (.tuple #[.slice none 0 0,.int .i64 (k:Nat)]))/\(∀D,o=.ok D->∃a n c,e=.returned (.tuple #[.slice a n c,.int .i64 0])/\RowC w.heap.size 42 2 yL w' (.slice a n c) (D.map mS)/\n=D.length)/\Same w w'
theorem vK(w:World)(a:Option Addr)(n c:Nat)(bs:List Nat)(hs:Src w (fun k=>k<w.heap.size) (.slice a n c) bs)(hL:n=bs.length)(hb:∀x∈bs,x<256)(cD:n≤c)(hn:n≤100000000)(hx:Mxl w)(hU:∀L,fV bs=.ok L→UnpOk w L):
  Calls Tryz.prog 8 #[.slice a n c] w λe w'=>Vd w w' (EY bs) e:=by
 have Nw:∀(fn:Fn) (first cap:Array Value) (w:World),(Instr.makeFunc fn first cap).run Tryz.prog w=.ok (.func fn first cap) w:=λ_ _ _ _=>rfl
 obtain⟨W1,hW1⟩:∃W,W=w.alloc (.cells #[.int .i64 0] 26):=⟨_,rfl⟩
 obtain⟨eb,Cm⟩:∃b,b=w.heap.size:=⟨_,rfl⟩
 have HK1:Hid (Same w W1):=hid (by rw[hW1];exact(Kept.refl _ w).alloc _);have HB1:Hid (Blk W1 eb #[.int .i64 0] 26):=hid (by rw[hW1,Cm];exact Blk.new w _ _);have HO:=qo W1 a n c bs ((hs.kept HK1.out (λ_ _ _ f=>f)).mono (λk hk=>Nat.lt_of_lt_of_le hk HK1.out.size)) hL hb cD hn (hx.kept HK1.out (λf=>f));have HEB:Hid (eb=w.heap.size):=Cm;have HU:Hid (∀L,fV bs=.ok L->UnpOk w L):=hU;clear hs hL hb cD hx hU;go_enter_defers Tryz.func8,Tryz.ntmps8;go_wp2_with fail;rw[<-hW1,<-Cm];clear hW1 Cm;refine HO.mono ?_;intro e w1 h1;obtain⟨fW,eP,hk1⟩:=h1;have HB2:Hid (Blk w1 eb #[.int .i64 0] 26):=hid (HB1.out.kept hk1 (λf=>f));have HK2:Hid (Same w w1):=hid (Same.trans HK1.out hk1);cases ho:fV bs with
 | error k=>
  obtain rfl:=fW k ho;have HE:Hid (EY bs=.error k):=hid (by unfold EY;rw[ho]);clear hk1 HO fW eP ho;unfold aG;go_wp2_with fail;have c0:w1.cell? ⟨eb,0,none⟩=some (.int .i64 0):=HB2.out.cell 0;have z0:=HB2.out.frozen 0;have d0:(w1.setCell ⟨eb,0,none⟩ (.int .i64 (k:Nat))).cell? ⟨eb,0,none⟩=some (.int .i64 (k:Nat)):=(by have:=(HB2.out.set 0 (.int .i64 (k:Nat))).cell 0;simpa using this);have HKF:Hid (Same w (w1.setCell ⟨eb,0,none⟩ (.int .i64 (k:Nat)))):=hid (HK2.out.setCell _ _ (.inr (by have h9:=HEB.out;show w.heap.size<=eb;omega)));refine leaves_cons (f:=24) (args:=#[.pointer (some ⟨eb,0,none⟩)]) (by simp) (by simp[go_sem]) ?_;refine(i6 eb 0 k w1 c0 z0).mono ?_;rintro e u' w'' ⟨rfl,rfl,rfl⟩;simp[Leaves,settle,results,Tryz.results8,go_sem,d0];exact⟨λk' e=>by rw[HE.out]at e;simp only[Except.error.injEq]at e;subst e;rfl,λD e=>(by rw[HE.out]at e;cases e),HKF.out⟩
 | ok L=>
  obtain⟨a1,n1,c1,xs,rfl,hr1,hi1,hn1,fF,ET⟩:=eP L ho;have HE:Hid (EY bs=io L):=hid (by unfold EY;rw[ho]);have HUL:=HU.out L ho;have HA:=rV W1.heap.size w1 a1 n1 c1 xs L hr1 hi1 hn1 ET (λj x y wx hx hy hk=>HUL W1.heap.size wx x y (List.mem_of_getElem? hy) ((hi1.2 j x y hx hy).kept hk (λ_ _ f=>f)) (Same.trans HK2.out hk));clear hk1 HO fW eP ho hr1 hi1 hn1 fF HUL;go_wp2_with fail;refine HA.mono ?_;intro e w2 h2;obtain⟨fW,eP,hk2⟩:=h2;have HB3:Hid (Blk w2 eb #[.int .i64 0] 26):=hid (HB2.out.kept hk2 (λf=>f));have HK3:Hid (Same w w2):=hid (Same.trans HK2.out hk2);have c0:w2.cell? ⟨eb,0,none⟩=some (.int .i64 0):=HB3.out.cell 0;have z0:=HB3.out.frozen 0;cases hq:io L with
  | error k=>
   obtain rfl:=fW k hq;have HE:Hid (EY bs=.error k):=hid (by rw[HE.out,hq]);clear fW eP hk2 hq HA;unfold aG;go_wp2_with fail;have d0:(w2.setCell ⟨eb,0,none⟩ (.int .i64 (k:Nat))).cell? ⟨eb,0,none⟩=some (.int .i64 (k:Nat)):=(by have:=(HB3.out.set 0 (.int .i64 (k:Nat))).cell 0;simpa using this);have HKF:Hid (Same w (w2.setCell ⟨eb,0,none⟩ (.int .i64 (k:Nat)))):=hid (HK3.out.setCell _ _ (.inr (by have h9:=HEB.out;show w.heap.size<=eb;omega)));refine leaves_cons (f:=24) (args:=#[.pointer (some ⟨eb,0,none⟩)]) (by simp) (by simp[go_sem]) ?_;refine(i6 eb 0 k w2 c0 z0).mono ?_;rintro e u' w'' ⟨rfl,rfl,rfl⟩;simp[Leaves,settle,results,Tryz.results8,go_sem,d0];exact⟨λk' e=>by rw[HE.out]at e;simp only[Except.error.injEq]at e;subst e;rfl,λD e=>(by rw[HE.out]at e;cases e),HKF.out⟩
  | ok D=>
   obtain⟨a2,n2,c2,rfl,hr2,hn2⟩:=eP D hq;have HE:Hid (EY bs=.ok D):=hid (by rw[HE.out,hq]);have HR2:Hid (RowC w.heap.size 42 2 yL w2 (.slice a2 n2 c2) (D.map mS)/\n2=D.length):=hid ⟨hr2.base HK2.out.size,hn2⟩;clear fW eP hk2 hq HA hr2 hn2;go_wp2_with fail;obtain⟨w3,hw3⟩:∃W,W=w2.setCell ⟨eb,0,none⟩ (.int .i64 0):=⟨_,rfl⟩
   have hb3:Blk w3 eb #[.int .i64 0] 26:=(by rw[hw3];have:=HB3.out.set 0 (.int .i64 0);simpa using this);have HKF:Hid (Same w (w3.setCell ⟨eb,0,none⟩ (.int .i64 0))):=hid (by rw[hw3];exact(HK3.out.setCell _ _ (.inr (by have h9:=HEB.out;show w.heap.size<=eb;omega))).setCell _ _ (.inr (by have h9:=HEB.out;show w.heap.size<=eb;omega)));have hks:Kept (·=eb) w2 (w3.setCell ⟨eb,0,none⟩ (.int .i64 0)):=(by rw[hw3];exact((Kept.refl (·=eb) w2).setCell _ _ (.inl rfl)).setCell _ _ (.inl rfl));have HRF:Hid (RowC w.heap.size 42 2 yL (w3.setCell ⟨eb,0,none⟩ (.int .i64 0)) (.slice a2 n2 c2) (D.map mS)):=hid (HR2.out.1.kept hks (λj e f=>HR2.out.1.off HB3.out (by decide) (by rw[e,f])));have d0:(w3.setCell ⟨eb,0,none⟩ (.int .i64 0)).cell? ⟨eb,0,none⟩=some (.int .i64 0):=(by have:=(hb3.set 0 (.int .i64 0)).cell 0;simpa using this);rw[<-hw3];refine leaves_cons (f:=24) (args:=#[.pointer (some ⟨eb,0,none⟩)]) (by simp) (by simp[go_sem]) ?_;refine(vO eb 0 w3 (hb3.cell 0) (hb3.frozen 0)).mono ?_;rintro e u' w'' ⟨rfl,rfl,rfl⟩;simp[Leaves,settle,results,Tryz.results8,go_sem,d0];exact⟨λk' e=>(by rw[HE.out]at e;cases e),λD' e=>by rw[HE.out]at e;simp only[Except.ok.injEq]at e;subst e;exact⟨a2,n2,c2,rfl,HRF.out,HR2.out.2⟩,HKF.out⟩
noncomputable def G3 (L:List It) (s:List Nat):Except Nat (List Nat):=match L.find? (λy=>decide (y.lab.name=s)) with
 | none=>.error 85
 | some y=>df y
noncomputable def D4 (bs s:List Nat):Except Nat (List Nat):=match fV bs with
 | .error e=>.error e
 | .ok L=>G3 L s
theorem Gu(L:List It)(s:List Nat)(p:Nat->Bool)(i:Nat)(h:∀j (hj:j<L.length),p (i+j)=decide (L[j].lab.name=s)):(∃y,L.find? (λy=>decide (y.lab.name=s))=some y/\L[f8 p L.length i-i]? = some y/\f8 p L.length i<i+L.length/\i<=f8 p L.length i)\/(L.find? (λy=>decide (y.lab.name=s))=none/\f8 p L.length i=i+L.length):=by
 induction L generalizing i with
 | nil=>right;exact⟨rfl,rfl⟩
 | cons y r ih=>
  have h0:=h 0 (by simp);simp only[Nat.add_zero,List.getElem_cons_zero]at h0;rw[List.length_cons,f8,List.find?_cons];cases hd:decide (y.lab.name=s) with
  | true=>
   rw[hd]at h0;rw[if_pos h0];left;exact⟨y,rfl,by simp,by omega,Nat.le_refl _⟩
  | false=>
   rw[hd]at h0;rw[if_neg (by rw[h0];decide)];rcases ih (i+1) (λj hj=>by have h9:=h (j+1) (by simpa using hj);rw[show i+(j+1)=i+1+j by omega]at h9;simpa using h9) with⟨z,h1,h2,h3,h4⟩ | ⟨h1,h2⟩
   ·left
    refine⟨z,h1,?_,by omega,by omega⟩;rw[show f8 p r.length (i+1)-i=f8 p r.length (i+1)-(i+1)+1 by omega];simpa using h2
   ·right
    exact⟨h1,by omega⟩
theorem AL(w:World)(m:Mk)(s:List Nat)(v:Value)(g:Nat)(hg:w.cell? ⟨g,0,none⟩=some (.string (bH s)))(ha:∀b∈m.name,b<256)(hb:∀b∈s,b<256):
  Calls Tryz.prog 28 #[.agg (jr m v),.pointer (some ⟨g,0,none⟩)] w λe w'=>e=.returned (.bool (decide (m.name=s)))/\Same w w':=by
 have Uk:∀o,(w.alloc o).cell? ⟨g,0,none⟩=some (.string (bH s)):=λo=>(show Same w (w.alloc o) from(Kept.refl _ w).alloc o).cell hg (λf=>f)
 have hq:=uB m.name s ha hb;obtain⟨B,hB⟩:∃B,B=decide (m.name=s):=⟨_,rfl⟩
 rw[<-hB]at hq ⊢;clear hB;unfold jr;go_enter Tryz.func28,Tryz.ntmps28;go_wp2_with fail;go_ret;exact⟨rfl,(Kept.refl _ w).alloc _⟩
theorem Tryz.entersFind2:∀args w,(callFunc 28 args).run Tryz.prog w=.ok (.enter 28 args) w:=enters_of Tryz.func28 (by kernel_rfl) rfl
def FdA(w w':World)(o:Except Nat (List Nat))(e:Ending):Prop:=
 (∀k,o=.error k->e=.returned (.tuple #[.string ⟨#[]⟩,.int .i64 (k:Nat)]))/\(∀d,o=.ok d->e=.returned (.tuple #[.string (bH d),.int .i64 0]))/\Same w w'
theorem FdA.bad{w w':World}{o:Except Nat (List Nat)}{e:Ending}{k:Nat}(h:o=.error k)(he:e=.returned (.tuple #[.string ⟨#[]⟩,.int .i64 (k:Nat)]))(hk:Same w w'):FdA w w' o e:=
 ⟨λn h'=>by rw[h]at h';simp only[Except.error.injEq]at h';subst h';exact he,λd h'=>(by rw[h]at h';cases h'),hk⟩
theorem Fh(w:World)(a:Option Addr)(n c:Nat)(bs:List Nat)(s:List Nat)(hs:Src w (fun k=>k<w.heap.size) (.slice a n c) bs)(hL:n=bs.length)(hb:∀x∈bs,x<256)(cD:n≤c)(hn:n≤100000000)(Uy:∀x∈s,x<256)(hx:Mxl w)(hU:∀L,fV bs=.ok L→UnpOk w L):
  Calls Tryz.prog 9 #[.slice a n c,.string (bH s)] w λe w'=>FdA w w' (D4 bs s) e:=by
 have Nw:∀(fn:Fn) (first cap:Array Value) (w:World),(Instr.makeFunc fn first cap).run Tryz.prog w=.ok (.func fn first cap) w:=λ_ _ _ _=>rfl
 obtain⟨W1,hW1⟩:∃W,W=(w.alloc (.cells #[.string (bH s)] 9)).alloc (.cells #[.int .i64 0] 26):=⟨_,rfl⟩
 obtain⟨nb,hnb⟩:∃b,b=w.heap.size:=⟨_,rfl⟩
 obtain⟨eb,Cm⟩:∃b,b=w.heap.size+1:=⟨_,rfl⟩
 have HK1:Hid (Same w W1):=hid (by rw[hW1];exact((Kept.refl _ w).alloc _).alloc _);have HB1:Hid (Blk W1 eb #[.int .i64 0] 26):=hid (by rw[hW1,Cm];have h9:=Blk.new (w.alloc (.cells #[.string (bH s)] 9)) #[.int .i64 0] 26;rw[World.size_alloc]at h9;exact h9);have HN1:Hid (Blk W1 nb #[.string (bH s)] 9):=hid (by rw[hW1,hnb];exact(Blk.new w _ _).kept (show Same _ _ from(Kept.refl _ _).alloc _) (λf=>f));have HO:=qo W1 a n c bs ((hs.kept HK1.out (λ_ _ _ f=>f)).mono (λk hk=>Nat.lt_of_lt_of_le hk HK1.out.size)) hL hb cD hn (hx.kept HK1.out (λf=>f));have HEB:Hid (eb=w.heap.size+1):=Cm;have HU:Hid (∀L,fV bs=.ok L->UnpOk w L):=hU;have HSB:Hid (∀x∈s,x<256):=Uy;clear hs hL hb cD hx hU Uy;go_enter_defers Tryz.func9,Tryz.ntmps9;go_wp2_with fail;rw[<-hW1,<-Cm,<-hnb];clear hW1 Cm hnb;refine HO.mono ?_;intro e w1 h1;obtain⟨fW,eP,hk1⟩:=h1;have HB2:Hid (Blk w1 eb #[.int .i64 0] 26):=hid (HB1.out.kept hk1 (λf=>f));have HN2:Hid (Blk w1 nb #[.string (bH s)] 9):=hid (HN1.out.kept hk1 (λf=>f));have HK2:Hid (Same w w1):=hid (Same.trans HK1.out hk1);have HDIE:Hid (∀(w2:World) (k:Nat),Same w1 w2->D4 bs s=.error k->Blk w2 eb #[.int .i64 0] 26/\Same w (w2.setCell ⟨eb,0,none⟩ (.int .i64 (k:Nat)))/\(w2.setCell ⟨eb,0,none⟩ (.int .i64 (k:Nat))).cell? ⟨eb,0,none⟩=some (.int .i64 (k:Nat))):=hid (λw2 k hk _=>by
  have hb:=HB2.out.kept hk (λf=>f);refine⟨hb,(Same.trans HK2.out hk).setCell _ _ (.inr (by have h9:=HEB.out;show w.heap.size<=eb;omega)),?_⟩;have:=(hb.set 0 (.int .i64 (k:Nat))).cell 0;simpa using this)
 cases ho:fV bs with
 | error k=>
  obtain rfl:=fW k ho;have HE:Hid (D4 bs s=.error k):=hid (by unfold D4;rw[ho]);clear hk1 HO fW eP ho;unfold aG;go_wp2_with fail;obtain⟨hb2,hkf,d0⟩:=HDIE.out w1 k (Kept.refl _ _) HE.out;refine leaves_cons (f:=26) (args:=#[.pointer (some ⟨eb,0,none⟩)]) (by simp) (by simp[go_sem]) ?_;refine(ff eb 0 k w1 (hb2.cell 0) (hb2.frozen 0)).mono ?_;rintro e u' w'' ⟨rfl,rfl,rfl⟩;simp[Leaves,settle,results,Tryz.results9,go_sem,d0];exact FdA.bad HE.out rfl hkf
 | ok L=>
  obtain⟨a1,n1,c1,xs,rfl,hr1,hi1,hn1,fF,ET⟩:=eP L ho;have HE:Hid (D4 bs s=G3 L s):=hid (by unfold D4;rw[ho]);have HUL:Hid (UnpOk w L):=hid (HU.out L ho);have HIX:=qb w1 a1 n1 c1 _ _ 28 nb (λi=>decide ((xs.getD i default).m.name=s)) (Itms.ofRow hr1 hn1) (by omega) Tryz.entersFind2 (λi wx hi hk=>AL wx _ s _ nb ((HN2.out.kept hk (λf=>f)).cell 0) (hi1.nam i (by omega)) HSB.out);have R8:=Gu L s (λi=>decide ((xs.getD i default).m.name=s)) 0 (λj hj=>by
   have T8:j<xs.length:=(by rw[hi1.1];exact hj);have e:xs.getD j default=xs[j]:=(by rw[List.getD_eq_getElem?_getD,List.getElem?_eq_getElem T8];rfl);have:=(hi1.2 j _ _ (List.getElem?_eq_getElem T8) (List.getElem?_eq_getElem hj)).lab;simp only[Nat.zero_add];rw[e,this])
  have Ta:n1=L.length:=(by rw[hn1];exact hi1.1);rw[<-Ta]at R8;simp only[Nat.zero_add,Nat.sub_zero]at R8;obtain⟨ix,MI⟩:∃x,x=I4 (λi=>decide ((xs.getD i default).m.name=s)) n1:=⟨_,rfl⟩
  rw[<-MI]at HIX;unfold I4 at MI;have HR1:Hid (RowC W1.heap.size 60 6 mu w1 (.slice a1 n1 c1) xs):=hr1;have HI1:Hid (Its W1.heap.size w1 xs L):=hi1;have HN:Hid (n1=xs.length/\n1=L.length):=hid ⟨hn1,Ta⟩;clear hk1 HO fW eP ho hr1 hi1 hn1 fF Ta;rcases R8 with⟨y,h1,h2,h3,_⟩ | ⟨h1,h2⟩
  ·rw[if_pos h3]at MI;obtain⟨i,hi⟩:∃i,i=f8 (λi=>decide ((xs.getD i default).m.name=s)) n1 0:=⟨_,rfl⟩
   rw[<-hi]at MI h2 h3;subst MI;have HE:Hid (D4 bs s=df y):=hid (by rw[HE.out];unfold G3;rw[h1]);have hx:=List.getElem?_eq_getElem (l:=xs) (i:=i) (by have:=HN.out;omega);obtain⟨x,ED⟩:∃x,x=xs[i]'(by have:=HN.out;omega):=⟨_,rfl⟩
   rw[<-ED]at hx;have HAT:Hid (ItAt W1.heap.size w1 x y):=hid (HI1.out.2 i x y hx h2);have HYL:Hid (y∈L):=hid (List.mem_of_getElem? h2);obtain⟨g,cap,hv,_,hc⟩:=HR1.out.at8 pV i (by have:=HN.out;omega);rw[<-ED]at hc;simp only[Value.slice.injEq]at hv;have fA:=hv.1;clear hv;subst fA;have HCX:Hid (∀(wr:World),Same w1 wr->∀k u,k<6->(mu x)[k]? = some u->wr.cell? ⟨g,i*6+k,none⟩=some u):=hid (λwr hk k u h1 h2=>hk.cell ((hc k h1).trans h2) (λf=>f));have i1:(0:Int)<=(i:Int):=(by omega);have i2:(i:Int)<(n1:Int):=(by omega);have i3:decide ((0:Int)<=(i:Int))=true:=(by simp);clear hi h1 h2 hx ED hc;go_wp2_with fail;refine HIX.mono ?_;rintro e w2 ⟨rfl,hk2⟩;have HS2:Hid (Same w1 w2):=hk2;have HO:=bh w2 (.int .i64 85);have k0:=HCX.out w2 hk2 0 _ (by decide) rfl;have k1:=HCX.out w2 hk2 1 _ (by decide) rfl;have k2:=HCX.out w2 hk2 2 _ (by decide) rfl;have k3:=HCX.out w2 hk2 3 _ (by decide) rfl;have k4:=HCX.out w2 hk2 4 _ (by decide) rfl;have k5:=HCX.out w2 hk2 5 _ (by decide) rfl;rw[Nat.add_zero]at k0;have HC:=HUL.out W1.heap.size w2 x y HYL.out (HAT.out.kept hk2 (λ_ _ f=>f)) (Same.trans HK2.out hk2);unfold jr at HC;clear hk2 HIX;go_wp2_with fail;refine HO.mono ?_;rintro e w3 ⟨rfl,hw3⟩;subst hw3;clear HO;go_wp2_with fail;refine HC.mono ?_;intro e w4 h4;obtain⟨eP,fW,hk4⟩:=h4;have HS4:Hid (Same w1 w4):=hid (Same.trans HS2.out hk4);cases hu:df y with
   | error k=>
    obtain rfl:=fW k hu;have HE:Hid (D4 bs s=.error k):=hid (by rw[HE.out,hu]);clear eP fW hk4 hu HC k0 k1 k2 k3 k4 k5;unfold aG;go_wp2_with fail;obtain⟨hb2,hkf,d0⟩:=HDIE.out w4 k HS4.out HE.out;refine leaves_cons (f:=26) (args:=#[.pointer (some ⟨eb,0,none⟩)]) (by simp) (by simp[go_sem]) ?_;refine(ff eb 0 k w4 (hb2.cell 0) (hb2.frozen 0)).mono ?_;rintro e u' w'' ⟨rfl,rfl,rfl⟩;simp[Leaves,settle,results,Tryz.results9,go_sem,d0];exact FdA.bad HE.out rfl hkf
   | ok d=>
    obtain rfl:=eP d hu;have HE:Hid (D4 bs s=.ok d):=hid (by rw[HE.out,hu]);have HB3:Hid (Blk w4 eb #[.int .i64 0] 26):=hid (HB2.out.kept HS4.out (λf=>f));have Yp:w4.cell? ⟨eb,0,none⟩=some (.int .i64 0):=HB3.out.cell 0;have z0:=HB3.out.frozen 0;clear eP fW hk4 hu HC k0 k1 k2 k3 k4 k5;go_wp2_with fail;obtain⟨w3,hw3⟩:∃W,W=w4.setCell ⟨eb,0,none⟩ (.int .i64 0):=⟨_,rfl⟩
    have hb3:Blk w3 eb #[.int .i64 0] 26:=(by rw[hw3];have:=HB3.out.set 0 (.int .i64 0);simpa using this);have HKF:Hid (Same w (w3.setCell ⟨eb,0,none⟩ (.int .i64 0))):=hid (by rw[hw3];exact((Same.trans HK2.out HS4.out).setCell _ _ (.inr (by have h9:=HEB.out;show w.heap.size<=eb;omega))).setCell _ _ (.inr (by have h9:=HEB.out;show w.heap.size<=eb;omega)));have d0:(w3.setCell ⟨eb,0,none⟩ (.int .i64 0)).cell? ⟨eb,0,none⟩=some (.int .i64 0):=(by have:=(hb3.set 0 (.int .i64 0)).cell 0;simpa using this);rw[<-hw3];refine leaves_cons (f:=26) (args:=#[.pointer (some ⟨eb,0,none⟩)]) (by simp) (by simp[go_sem]) ?_;refine(wJ eb 0 w3 (hb3.cell 0) (hb3.frozen 0)).mono ?_;rintro e u' w'' ⟨rfl,rfl,rfl⟩;simp[Leaves,settle,results,Tryz.results9,go_sem,d0];exact⟨λk' e=>(by rw[HE.out]at e;cases e),λD' e=>by rw[HE.out]at e;simp only[Except.ok.injEq]at e;subst e;rfl,HKF.out⟩
  ·rw[if_neg (by omega)]at MI;subst MI;have HE:Hid (D4 bs s=.error 85):=hid (by rw[HE.out];unfold G3;rw[h1]);clear h1 h2;go_wp2_with fail;refine HIX.mono ?_;rintro e w2 ⟨rfl,hk2⟩;have HS2:Hid (Same w1 w2):=hk2;have HO:=aL w2 85;clear hk2 HIX;go_wp2_with fail;refine HO.mono ?_;rintro e w3 ⟨rfl,hw3⟩;subst hw3;clear HO;unfold aG;go_wp2_with fail;obtain⟨hb2,hkf,d9⟩:=HDIE.out w3 85 HS2.out HE.out;have d0:(w3.setCell ⟨eb,0,none⟩ (.int .i64 85)).cell? ⟨eb,0,none⟩=some (.int .i64 85):=d9;refine leaves_cons (f:=26) (args:=#[.pointer (some ⟨eb,0,none⟩)]) (by simp) (by simp[go_sem]) ?_;refine(ff eb 0 85 w3 (hb2.cell 0) (hb2.frozen 0)).mono ?_;rintro e u' w'' ⟨rfl,rfl,rfl⟩;simp[Leaves,settle,results,Tryz.results9,go_sem,d0];exact FdA.bad HE.out rfl hkf
theorem DH(w:World)(v:Value)(I:Nat→Prop)(cs:List Nat)(hsrc:Src w I v cs)(ag:cs.length≤100000000):
  Calls Tryz.prog 11 #[v] w λe w'=>∃g,e=.returned (.slice (some ⟨g,0,none⟩) cs.length (cs.length+1))/\Row w' (.slice (some ⟨g,0,none⟩) (cs.length+1) (cs.length+1)) (cs++[99])/\Kept (λ_=>False) w w'/\w.heap.size<=g:=by
 obtain⟨ao,cap,rfl,_⟩:=id hsrc;have HS:Hid (Src w I (.slice ao cs.length cap) cs):=hsrc;clear hsrc;go_enter Tryz.func11,Tryz.ntmps11;go_wp2_with (first | (at_make;refine eF _ rfl _ _ rfl _ _ _ _ (cs.length+1) rfl rfl (by omega) (by omega) (by omega) ?_;intro w1 hr1 pL hs1;have HR:Hid (Row w1 (.slice (some ⟨w.heap.size,0,none⟩) (cs.length+1) (cs.length+1)) (List.replicate (cs.length+1) 0)):=hr1;have HK:Hid (Kept (λ_=>False) w w1):=(Kept.refl _ w).grown pL (by simp);clear hr1 pL) | (with_reducible refine oy ?_;refine dD _ rfl (.tmp 8) (.tmp 9) rfl w.heap.size (cs.length+1) (cs.length+1) ao cs.length cap (List.replicate (cs.length+1) 0) cs I rfl rfl HR.out (HS.out.kept HK.out (λ_ _ _ h=>h)) (by simp) ?_));intro w2 hr2 nN hs2;have hr3:Row w2 (.slice (some ⟨w.heap.size,0,none⟩) (cs.length+1) (cs.length+1)) (cs++[0]):=by simpa using hr2
 have c1:w2.cell? ⟨w.heap.size,cs.length,none⟩=some (.int .u8 0):=by rw[Row.cell' hr3 cs.length (by simp)];simp
 have f1:w2.frozen? ⟨w.heap.size,cs.length,none⟩=false:=Row.frozen' hr3 _;have HR2:Hid (Row w2 (.slice (some ⟨w.heap.size,0,none⟩) (cs.length+1) (cs.length+1)) (cs++[0])):=hr3;have HK2:Hid (Kept (λ_=>False) w w2):=HK.out.grown nN (λk e=>.inr (by simp at e;omega));clear hr2 hr3 nN hs2 HR HK;go_wp2_with fail;go_ret;refine⟨w.heap.size,rfl,?_,HK2.out.setCell _ _ (.inr (Nat.le_refl _)),Nat.le_refl _⟩;have h:=Row.lay HR2.out cs.length 99;rw[Ma _ _ _ _ _ rfl]at h;exact h
theorem Ents.ofRow{B:Nat}{w:World}{a:Option Addr}{n c:Nat}{ys:List En}(h:RowC B 42 2 yL w (.slice a n c) ys)(hn:n=ys.length):Ents w (λ_=>True) a n (λj=>ys.getD j default):=by
 subst hn;intro j hj;obtain⟨g,cap,hv,_,hc⟩:=h.at8 Fo j hj;simp only[Value.slice.injEq]at hv;have e:ys.getD j default=ys[j]:=by rw[List.getD_eq_getElem?_getD,List.getElem?_eq_getElem hj];rfl
 simp only[e];refine⟨g,0,hv.1,trivial,?_,?_⟩
 ·have:=hc 0 (by decide);simpa[yL]using this
 ·have:=hc 1 (by decide);simpa[yL]using this
theorem zS(w:World)(a b:Option Addr)(n c d:Nat)(E:Nat→En)(I J:Nat→Prop)(ha:Ents w I a n E)(hb:Ents w J b n E)(hn:n≤100000000):
  Calls Tryz.prog 12 #[.slice a n c,.slice b n d] w λe w'=>e=.returned (.bool true)/\Same w w':=by
 have HA:Hid (Ents w I a n E):=ha;have HB:Hid (Ents w J b n E):=hb;have Za:((n:Int)==(n:Int))=true:=by simp
 clear ha hb;go_enter Tryz.func12,Tryz.ntmps12;go_wp2_with fail;go_loopg [5] n (λk z wr=>∃i:Nat,n-i<=k/\i<=n/\z=.int .i64 (i:Nat)/\Hid (Same w wr))
 case atStart=>exact⟨0,by omega,by omega,rfl,hid (Kept.refl _ _)⟩
 case round=>
  obtain⟨i,hk,yr,rfl,HK⟩:=hrel;by_cases hlt:i<n
  ·have nM:decide (i<n)=true:=(by simp;omega);obtain⟨g1,o1,e1,_,c0,c1⟩:=HA.out i hlt;obtain⟨g2,o2,e2,_,d0,d1⟩:=HB.out i hlt;subst e1;subst e2;have c0:=HK.out.cell c0 (λf=>f);have c1:=HK.out.cell c1 (λf=>f);have d0:=HK.out.cell d0 (λf=>f);have d1:=HK.out.cell d1 (λf=>f);obtain⟨y,hy⟩:∃y,y=E i:=⟨_,rfl⟩
   rw[<-hy]at c0 c1 d0 d1;have q0:(y.n.toList==y.n.toList)=true:=(by simp);have q1:(y.d.toList==y.d.toList)=true:=(by simp);have EP:IntKind.i64.wrap ((i:Int)+1)=((i+1:Nat):Int):=(by rw[IntKind.wrap_i64];omega);have i1:(0:Int)<=(i:Int):=(by omega);have i2:(i:Int)<(n:Int):=(by omega);clear hy;go_wp2_with fail;go_quiet (fail);go_wp2_with fail;go_roundg (gk-1)
   case measure=>omega
   case rel=>exact⟨i+1,by omega,by omega,by go_num,hid (HK.out.drewN _)⟩
  ·have nM:decide (i<n)=false:=(by simp;omega);go_wp2_with fail;go_ret;exact⟨rfl,HK.out⟩
end Go.Proofs.YtkhagfgineifhaaGreatDoor
namespace Go.Proofs.YtkhagfgineifhaaGreatDoor
theorem vI{a b:List Nat}{n:Nat}(ha:n<=a.length)(hb:n<=b.length):n<=(bX a b).length:=by unfold bX;split<;>assumption
theorem Jr(ts:List TK):17<=(rY ts).length:=by
 unfold rY kW bB;simp only[List.length_append,List.length_cons,List.length_nil];have h1:∀v n,(aj v n).length=n:=λv n=>af v n
 rw[h1,h1,h1];omega
theorem AE{data bs:List Nat}(h:PDef data bs)(hf:17<=(dG (cT data)).length):¬bs.length<3:=by obtain⟨x2,x3,rfl,h2,h3⟩:=h;have g2:=h2.1.len;have g3:=h3.1.1.len;have g4:=Jr (cT data);have:3<=(bX (bX (bE data) x2) x3).length:=vI (vI (by simp[bE]) (by omega)) (by omega);omega
theorem J4:17<=(dG (cT [111,110,101])).length:=by decide +kernel
theorem Kr:17<=(dG (cT [116,119,111])).length:=by decide +kernel
def GI:ByteArray:=⟨#[111,110,101]⟩
def Hu:ByteArray:=⟨#[116,119,111]⟩
def a8:ByteArray:=⟨#[97]⟩
def NC:ByteArray:=⟨#[98,47,99]⟩
def Le:ByteArray:=⟨#[]⟩
def I3(j:Nat):En:=if j=0 then⟨a8,GI⟩ else⟨NC,Hu⟩
def Qi(_:Nat):En:=⟨a8,Le⟩
theorem pF:fT I3 2=0:=by decide +kernel
theorem Bh:fT Qi 2=80:=by decide +kernel
theorem tB{y:En}{bs:List Nat}(h:PDef (sb y.d) bs)(hd:y.d.size=3)(hf:17<=(dG (cT (sb y.d))).length):(dZ y bs).way=0/\df ⟨dZ y bs,d8 y bs⟩=.ok (sb y.d):=by
 have h3:=AE h hf;have e1:(dZ y bs).way=0:=by simp only[dZ];rw[if_neg (by omega)]
 have e2:d8 y bs=sb y.d:=by simp only[d8];rw[if_neg (by omega)]
 refine⟨e1,?_⟩;unfold df;rw[if_neg (by rw[e1];decide)];simp only;rw[e2,show(dZ y bs).sum=more 0 (sb y.d)from rfl,if_pos rfl]
theorem JF{L:List It}(h:lD I3 2 L):(∀y∈L,y.lab.way=0)/\fV (bT L)=.ok L/\EY (bT L)=.ok [(sb a8,sb GI),(sb NC,sb Hu)]:=by
 obtain⟨hl,hj⟩:=h
 match L,hl with
 | [x0,x1],_=>
  obtain⟨b0,p0,e0⟩:=hj 0 x0 rfl;obtain⟨b1,p1,e1⟩:=hj 1 x1 rfl;have t0:=tB (y:=I3 0) p0 rfl J4;have t1:=tB (y:=I3 1) p1 rfl Kr;rw[<-e0]at t0;rw[<-e1]at t1;have Cs:=xe (E:=I3) (len:=2) (L:=[x0,x1]) ⟨rfl,hj⟩ pF;have Wx:x0.lab.way=0:=(by have:=t0.1;rw[e0];exact this);have Xh:x1.lab.way=0:=(by have:=t1.1;rw[e1];exact this);refine⟨λy hy=>?_,Cs,?_⟩
  ·simp only[List.mem_cons,List.not_mem_nil,or_false]at hy;rcases hy with rfl | rfl
   ·exact Wx
   ·exact Xh
  ·unfold EY;rw[Cs];simp only[io,t0.2,t1.2];have n0:x0.lab.name=sb a8:=(by rw[e0];rfl);have n1:x1.lab.name=sb NC:=(by rw[e1];rfl);rw[n0,n1];rfl
theorem Mf{E:Nat->En}{L:List It}(h:lD E 0 L):bT L=eO 0 0 0:=by have:L=[]:=List.eq_nil_of_length_eq_zero h.1;subst this;rfl
theorem Mm:fV (eO 0 0 0++[0])=.error 81:=by
 have h1:(eO 0 0 0++[0]).length=23:=by decide +kernel
 have h2:nF ((eO 0 0 0++[0]).drop 1)=none:=by decide +kernel
 unfold fV;rw[h1,if_neg (by decide),if_neg (by decide),en h2]
end Go.Proofs.YtkhagfgineifhaaGreatDoor
namespace Go.Proofs.YtkhagfgineifhaaGreatDoor
open Go.RowKit
def jM(m:Mk):List Value:=[.string (bH m.name),.int .i64 (m.size:Nat),.int .i64 (m.packed:Nat),.int .u32 (m.sum:Nat),.int .i64 (m.way:Nat)]
theorem um:dJ jM 5:=⟨λ_=>rfl,λx u hu=>by simp[jM]at hu;rcases hu with rfl | rfl | rfl | rfl | rfl<;>rfl,by decide⟩
theorem Tryz.infoInfo:(Tryz.prog.info? 34).map (λi=>(i.zero,i.size,i.bytes))=some (some (.agg #[.string ⟨#[]⟩,.int .i64 0,.int .i64 0,.int .u32 0,.int .i64 0]),5,48):=by kernel_rfl
theorem AV(w:World)(m:Mk):aS (w.alloc (.cells #[.string (bH m.name),.int .i64 (m.size:Nat),.int .i64 (m.packed:Nat),.int .u32 (m.sum:Nat),.int .i64 (m.way:Nat)] 34)) ⟨w.heap.size,0,none⟩ ([m].flatMap jM):=by
 intro j u hj
 match j,hj with
 | 0,hj=>simp[jM]at hj;subst hj;simp[cf]
 | 1,hj=>simp[jM]at hj;subst hj;simp[cf]
 | 2,hj=>simp[jM]at hj;subst hj;simp[cf]
 | 3,hj=>simp[jM]at hj;subst hj;simp[cf]
 | 4,hj=>simp[jM]at hj;subst hj;simp[cf]
 | j+5,hj=>simp[jM]at hj
def Vc(w w':World)(o:Except Nat (List It))(e:Ending):Prop:=
 (∀k,o=.error k->e=.returned (.tuple #[.slice none 0 0,.int .i64 (k:Nat)]))/\(∀L,o=.ok L->∃a n c,e=.returned (.tuple #[.slice a n c,.int .i64 0])/\RowC w.heap.size 34 5 jM w' (.slice a n c) (L.map (·.lab))/\n=L.length)/\Same w w'
structure Tr(w wr:World)(eb:Nat)(L:List It)(i:Nat)(v:Value):Prop where
 row:RowC w.heap.size 34 5 jM wr v ((L.take i).map (·.lab))
 blk:Blk wr eb #[.int .i64 0] 26
 same:Same w wr
theorem qX(w:World)(a:Option Addr)(n c:Nat)(bs:List Nat)(hs:Src w (fun k=>k<w.heap.size) (.slice a n c) bs)(hL:n=bs.length)(hb:∀x∈bs,x<256)(cD:n≤c)(hn:n≤100000000)(hx:Mxl w):
  Calls Tryz.prog 7 #[.slice a n c] w λe w'=>Vc w w' (fV bs) e:=by
 have Nw:∀(fn:Fn) (first cap:Array Value) (w:World),(Instr.makeFunc fn first cap).run Tryz.prog w=.ok (.func fn first cap) w:=λ_ _ _ _=>rfl
 obtain⟨W1,hW1⟩:∃W,W=w.alloc (.cells #[.int .i64 0] 26):=⟨_,rfl⟩
 obtain⟨eb,Cm⟩:∃b,b=w.heap.size:=⟨_,rfl⟩
 have HK1:Hid (Same w W1):=hid (by rw[hW1];exact(Kept.refl _ w).alloc _);have HB1:Hid (Blk W1 eb #[.int .i64 0] 26):=hid (by rw[hW1,Cm];exact Blk.new w _ _);have HO:=qo W1 a n c bs ((hs.kept HK1.out (λ_ _ _ f=>f)).mono (λk hk=>Nat.lt_of_lt_of_le hk HK1.out.size)) hL hb cD hn (hx.kept HK1.out (λf=>f));have HEB:Hid (eb=w.heap.size):=Cm;clear hs hL hb cD hx;go_enter_defers Tryz.func7,Tryz.ntmps7;go_wp2_with fail;rw[<-hW1,<-Cm];clear hW1 Cm;refine HO.mono ?_;intro e w1 h1;obtain⟨fW,eP,hk1⟩:=h1;have HB2:Hid (Blk w1 eb #[.int .i64 0] 26):=hid (HB1.out.kept hk1 (λf=>f));have HK2:Hid (Same w w1):=hid (Same.trans HK1.out hk1);cases ho:fV bs with
 | error k=>
  obtain rfl:=fW k ho;have HE:Hid (fV bs=.error k):=ho;clear hk1 HO fW eP ho;unfold aG;go_wp2_with fail;have c0:w1.cell? ⟨eb,0,none⟩=some (.int .i64 0):=HB2.out.cell 0;have z0:=HB2.out.frozen 0;have d0:(w1.setCell ⟨eb,0,none⟩ (.int .i64 (k:Nat))).cell? ⟨eb,0,none⟩=some (.int .i64 (k:Nat)):=(by have:=(HB2.out.set 0 (.int .i64 (k:Nat))).cell 0;simpa using this);have HKF:Hid (Same w (w1.setCell ⟨eb,0,none⟩ (.int .i64 (k:Nat)))):=hid (HK2.out.setCell _ _ (.inr (by have h9:=HEB.out;show w.heap.size<=eb;omega)));refine leaves_cons (f:=20) (args:=#[.pointer (some ⟨eb,0,none⟩)]) (by simp) (by simp[go_sem]) ?_;refine(oz eb 0 k w1 c0 z0).mono ?_;rintro e u' w'' ⟨rfl,rfl,rfl⟩;simp[Leaves,settle,results,Tryz.results7,go_sem,d0];exact⟨λk' e=>by rw[HE.out]at e;simp only[Except.error.injEq]at e;subst e;rfl,λD e=>(by rw[HE.out]at e;cases e),HKF.out⟩
 | ok L=>
  obtain⟨a1,n1,c1,xs,rfl,hr1,hi1,hn1,fF,ET⟩:=eP L ho;have HE:Hid (fV bs=.ok L):=ho;have HR1:Hid (RowC W1.heap.size 60 6 mu w1 (.slice a1 n1 c1) xs):=hr1;have HI1:Hid (Its W1.heap.size w1 xs L):=hi1;have HN:Hid (n1=xs.length/\n1=L.length):=hid ⟨hn1,by rw[hn1];exact hi1.1⟩;clear hk1 HO fW eP ho hr1 hi1 hn1 fF;go_wp2_with fail;go_loopg [2,10] n1 (λqq z2 z10 wr=>∃(i:Nat),z10=.int .i64 (i:Nat)/\i<=n1/\n1-i<=qq/\Hid (Tr w1 wr eb L i z2))
  case atStart=>exact⟨0,rfl,by omega,by omega,hid ⟨RowC.nil,HB2.out,Kept.refl _ _⟩⟩
  case round=>
   obtain⟨i,rfl,hi1,Lv,HI⟩:=hrel;obtain⟨v0,tJ⟩:∃v,v=u2:=⟨_,rfl⟩
   rw[<-tJ]at HI;rw[<-tJ];clear tJ;obtain⟨a0,c0,tJ,_⟩:=HI.out.row.shape;rw[List.length_map,List.length_take,Nat.min_eq_left (by have:=HN.out;omega)]at tJ;subst tJ;by_cases hi:i<n1
   ·have nM:decide (i<n1)=true:=(by simp;omega);have hx:=List.getElem?_eq_getElem (l:=xs) (i:=i) (by have:=HN.out;omega);have hy:=List.getElem?_eq_getElem (l:=L) (i:=i) (by have:=HN.out;omega);obtain⟨x,ED⟩:∃x,x=xs[i]'(by have:=HN.out;omega):=⟨_,rfl⟩
    obtain⟨y,Pw⟩:∃y,y=L[i]'(by have:=HN.out;omega):=⟨_,rfl⟩
    rw[<-ED]at hx;rw[<-Pw]at hy;obtain⟨g,cap,hv,_,hc⟩:=HR1.out.at8 pV i (by have:=HN.out;omega);rw[<-ED]at hc;simp only[Value.slice.injEq]at hv;have fA:=hv.1;clear hv;subst fA;have rN:∀k u,k<6->(mu x)[k]? = some u->wr.cell? ⟨g,i*6+k,none⟩=some u:=λk u h1 h2=>HI.out.same.cell ((hc k h1).trans h2) (λf=>f)
    have k0:=rN 0 _ (by decide) rfl;have k1:=rN 1 _ (by decide) rfl;have k2:=rN 2 _ (by decide) rfl;have k3:=rN 3 _ (by decide) rfl;have k4:=rN 4 _ (by decide) rfl;have k5:=rN 5 _ (by decide) rfl;rw[Nat.add_zero]at k0;have EP:IntKind.i64.wrap ((i:Int)+1)=((i+1:Nat):Int):=(by rw[IntKind.wrap_i64];omega);have i1:(0:Int)<=(i:Int):=(by omega);have i2:(i:Int)<(n1:Int):=(by omega);have HAT:=HI1.out.2 i x y hx hy;have HXL:Hid (x.m=y.lab/\L[i]? = some y):=hid ⟨HAT.lab,hy⟩;obtain⟨wA,pN⟩:∃W,W=wr.alloc (.cells (jr x.m (.slice x.a x.n x.c)) 60):=⟨_,rfl⟩
    obtain⟨xb,ie⟩:∃b,b=wr.heap.size:=⟨_,rfl⟩
    have HKA:Hid (Same wr wA):=hid (by rw[pN];exact(Kept.refl _ wr).alloc _);have HXA:Hid (Blk wA xb (jr x.m (.slice x.a x.n x.c)) 60):=hid (by rw[pN,ie];exact Blk.new wr _ _);have HC:=GG wA x.m (.slice x.a x.n x.c) (by rw[HAT.lab];exact HAT.ok);clear ED Pw hx hy hc rN HAT;unfold jr at pN HC HXA;have q0:wA.cell? ⟨xb,0,none⟩=some (.int .u16 (x.m.way:Nat)):=HXA.out.cell 0;have q1:wA.cell? ⟨xb,1,none⟩=some (.int .u32 (x.m.sum:Nat)):=HXA.out.cell 1;have q2:wA.cell? ⟨xb,2,none⟩=some (.int .u32 (x.m.packed:Nat)):=HXA.out.cell 2;have q3:wA.cell? ⟨xb,3,none⟩=some (.int .u32 (x.m.size:Nat)):=HXA.out.cell 3;have q4:wA.cell? ⟨xb,4,none⟩=some (.string (bH x.m.name)):=HXA.out.cell 4;have q5:wA.cell? ⟨xb,5,none⟩=some (.slice x.a x.n x.c):=HXA.out.cell 5;go_wp2_with fail;rw[<-pN,<-ie];clear pN ie;refine HC.mono ?_;rintro e w4 ⟨rfl,hk4⟩;have HK4:Hid (Same wr w4):=hid (Same.trans HKA.out hk4);have HR4:Hid (RowC w1.heap.size 34 5 jM w4 (.slice a0 i c0) ((L.take i).map (·.lab))):=hid (HI.out.row.kept HK4.out (λ_ _ f=>f));clear hk4 HC q0 q1 q2 q3 q4 q5 k0 k1 k2 k3 k4 k5;go_wp2_with (at_builtin;refine dW _ jM 5 um (by decide) w1.heap.size 29 34 (.agg #[.string ⟨#[]⟩,.int .i64 0,.int .i64 0,.int .u32 0,.int .i64 0]) 48 Tryz.underlying29 Tryz.infoInfo rfl (by decide) rfl (.tmp 14) (.tmp 17) rfl (.slice a0 i c0) ((L.take i).map (·.lab)) rfl (HR4.out.kept (show Same _ _ from(Kept.refl _ _).alloc _) (λ_ _ f=>f)) ⟨w4.heap.size,0,none⟩ 1 1 [x.m] rfl rfl (AV w4 x.m) (by rw[List.length_map,List.length_take];simp;omega) (by have:=HI.out.same.size;have:=HK4.out.size;simp;omega) ?_;intro v8 w8 hr8 Lr);obtain⟨wB,yt⟩:∃W,W=w4.alloc (.cells #[.string (bH x.m.name),.int .i64 (x.m.size:Nat),.int .i64 (x.m.packed:Nat),.int .u32 (x.m.sum:Nat),.int .i64 (x.m.way:Nat)] 34):=⟨_,rfl⟩
    have Ia:wB.grownBy w8 (Value.slice a0 i c0).ownBlock:=(by rw[yt];exact Lr);have vt:Same w4 wB:=(by rw[yt];exact(Kept.refl _ w4).alloc _);have hk8:Kept (λk=>(Value.slice a0 i c0).ownBlock=some k) wB w8:=(Kept.refl _ wB).grown Ia (λk e=>.inl e);have HF:Hid (Tr w1 w8 eb L (i+1) v8):=hid (by
     refine⟨?_,?_,((Same.trans HI.out.same (Same.trans HK4.out vt)).then hk8 (λk hk e=>by have:=HR4.out.ge e;omega))⟩
     ·rw[List.take_add_one,HXL.out.2,List.map_append];show RowC _ _ _ _ _ _ ((L.take i).map (·.lab)++[y.lab]);rw[<-HXL.out.1];exact hr8
     ·have hb4:=(HI.out.blk.kept HK4.out (λf=>f)).kept vt (λf=>f);exact hb4.kept hk8 (λe=>(HR4.out.kept vt (λ_ _ f=>f)).off hb4 (by decide) e))
    clear hr8 Lr yt Ia vt hk8;go_wp2_with fail;go_roundg (gk-1)
    case measure=>omega
    case rel=>exact⟨i+1,by go_num,by omega,by omega,HF⟩
   ·have nM:decide (i<n1)=false:=(by simp;omega);obtain rfl:i=n1:=(by omega);have HR2:Hid (RowC w.heap.size 34 5 jM wr (.slice a0 i c0) (L.map (·.lab))):=hid (by have h9:=HI.out.row;rw[List.take_of_length_le (by have:=HN.out;omega)]at h9;exact h9.base HK2.out.size);have HB3:Hid (Blk wr eb #[.int .i64 0] 26):=hid HI.out.blk;have Yp:wr.cell? ⟨eb,0,none⟩=some (.int .i64 0):=HB3.out.cell 0;have z0:=HB3.out.frozen 0;go_wp2_with fail;obtain⟨w3,hw3⟩:∃W,W=wr.setCell ⟨eb,0,none⟩ (.int .i64 0):=⟨_,rfl⟩
    have hb3:Blk w3 eb #[.int .i64 0] 26:=(by rw[hw3];have:=HB3.out.set 0 (.int .i64 0);simpa using this);have HKF:Hid (Same w (w3.setCell ⟨eb,0,none⟩ (.int .i64 0))):=hid (by rw[hw3];exact((Same.trans HK2.out HI.out.same).setCell _ _ (.inr (by have h9:=HEB.out;show w.heap.size<=eb;omega))).setCell _ _ (.inr (by have h9:=HEB.out;show w.heap.size<=eb;omega)));have hks:Kept (·=eb) wr (w3.setCell ⟨eb,0,none⟩ (.int .i64 0)):=(by rw[hw3];exact((Kept.refl (·=eb) wr).setCell _ _ (.inl rfl)).setCell _ _ (.inl rfl));have HRF:Hid (RowC w.heap.size 34 5 jM (w3.setCell ⟨eb,0,none⟩ (.int .i64 0)) (.slice a0 i c0) (L.map (·.lab))):=hid (HR2.out.kept hks (λj e f=>HR2.out.off HB3.out (by decide) (by rw[e,f])));have d0:(w3.setCell ⟨eb,0,none⟩ (.int .i64 0)).cell? ⟨eb,0,none⟩=some (.int .i64 0):=(by have:=(hb3.set 0 (.int .i64 0)).cell 0;simpa using this);rw[<-hw3];refine leaves_cons (f:=20) (args:=#[.pointer (some ⟨eb,0,none⟩)]) (by simp) (by simp[go_sem]) ?_;refine(wL eb 0 w3 (hb3.cell 0) (hb3.frozen 0)).mono ?_;rintro e u' w'' ⟨rfl,rfl,rfl⟩;simp[Leaves,settle,results,Tryz.results7,go_sem,d0];exact⟨λk' e=>(by rw[HE.out]at e;cases e),λD' e=>by rw[HE.out]at e;simp only[Except.ok.injEq]at e;subst e;exact⟨a0,_,_,rfl,HRF.out,HN.out.2⟩,HKF.out⟩
theorem Row.low8{w:World}{v:Value}{bs:List Nat}(h:Row w v bs):Src w (λk=>k<w.heap.size) v bs:=(Src.ofRow h).mono (λ_ e=>(World.ownsRow.lt h _ e).2)
theorem Row.shape8{w:World}{v:Value}{bs:List Nat}(h:Row w v bs):∃a c,v=.slice a bs.length c/\bs.length<=c/\(bs≠[]->∃g,a=some ⟨g,0,none⟩/\∀j (hj:j<bs.length),w.cell? ⟨g,j,none⟩=some (.int .u8 (bs[j]:Nat))):=by
 obtain⟨ao,cap,e,hc⟩:=Src.ofRow h;have h2:=h.2;rcases h2 with⟨e2,h3⟩ | ⟨g,eS,cur,e2,_,_,h4,_⟩
 ·refine⟨none,0,by rw[e2,h3],by omega,λhb=>absurd (List.eq_nil_of_length_eq_zero h3) hb⟩
 ·refine⟨some ⟨g,0,none⟩,eS,e2,h4,λhb=>⟨g,rfl,λj hj=>?_⟩⟩;obtain⟨b,o,e5,_,h6⟩:=hc hb;rw[e2]at e;simp only[Value.slice.injEq]at e;rw[e5]at e;simp only[Option.some.injEq,Addr.mk.injEq,and_true]at e;obtain⟨⟨rfl,rfl⟩,_⟩:=e;have:=h6 j hj;simpa using this
theorem rp(w:World)(x0 x1 x2 x3:ByteArray):Ents (w.alloc (.cells #[.string x0,.string x1,.string x2,.string x3] 42)) (λ_=>True) (some ⟨w.heap.size,0,none⟩) 2 (λj=>if j=0 then⟨x0,x1⟩ else⟨x2,x3⟩):=by
 have hb:=Blk.new w #[.string x0,.string x1,.string x2,.string x3] 42;intro j hj;refine⟨w.heap.size,0,rfl,trivial,?_⟩
 match j,hj with
 | 0,_=>exact⟨hb.cell 0,hb.cell 1⟩
 | 1,_=>exact⟨hb.cell 2,hb.cell 3⟩
theorem dq(v n:Nat):∀b∈aR v n,b<256:=by
 induction n generalizing v with
 | zero=>intro b hb;simp[aR]at hb
 | succ n ih=>
  intro b hb;rw[aR]at hb;rcases List.mem_append.1 hb with hb | hb
  ·exact ih _ b hb
  ·simp only[List.mem_cons,List.not_mem_nil,or_false]at hb;omega
theorem tv(m:Mk):∀b∈im m,b<256:=by intro b hb;unfold im at hb;simp only[List.mem_append]at hb;rcases hb with h | h | h | h | h | h | h | h | h | h<;>exact dq _ _ b h
theorem Da{L:List It}(h:∀x∈L,(∀b∈x.lab.name,b<256)/\∀b∈x.bytes,b<256):∀b∈bT L,b<256:=by
 have hp:∀b∈aN L,b<256:=by
  intro b hb;obtain⟨x,hx,hb⟩:=List.mem_flatMap.1 hb;unfold lk ig at hb;simp only[List.mem_append]at hb;rcases hb with(h1 | h1 | h1) | h1
  ·exact dq _ _ b h1
  ·exact tv _ b h1
  ·exact(h x hx).1 b h1
  ·exact(h x hx).2 b h1
 have hr:∀(at':Nat) (L:List It),(∀x∈L,(∀b∈x.lab.name,b<256)/\∀b∈x.bytes,b<256)->∀b∈bz at' L,b<256:=by
  intro at' L
  induction L generalizing at' with
  | nil=>intro _ b hb;simp[bz]at hb
  | cons x r ih=>
   intro h b hb;rw[bz]at hb;rcases List.mem_append.1 hb with hb | hb
   ·unfold k9 at hb;simp only[List.mem_append]at hb;rcases hb with h1 | h1 | h1 | h1 | h1 | h1 | h1 | h1 | h1
    ·exact dq _ _ b h1
    ·exact dq _ _ b h1
    ·exact tv _ b h1
    ·exact dq _ _ b h1
    ·exact dq _ _ b h1
    ·exact dq _ _ b h1
    ·exact dq _ _ b h1
    ·exact dq _ _ b h1
    ·exact(h x (by simp)).1 b h1
   ·exact ih _ (λy hy=>h y (by simp[hy])) b hb
 intro b hb;unfold bT at hb;simp only[List.mem_append]at hb;rcases hb with h1 | h1 | h1
 ·exact hp b h1
 ·exact hr 0 L h b h1
 ·unfold eO at h1;simp only[List.mem_append]at h1;rcases h1 with h | h | h | h | h | h | h | h<;>exact dq _ _ b h
theorem D9{data bs:List Nat}(h:PDef data bs)(hb:∀b∈data,b<256)(hl:data.length<=16384):∀b∈bs,b<256:=by
 obtain⟨x2,x3,rfl,h2,h3⟩:=h;have hs:∀b∈bE data,b<256:=by
  intro b hx;unfold bE at hx;simp only[List.mem_append,List.mem_cons,List.not_mem_nil,or_false]at hx;rcases hx with(rfl | rfl | rfl | rfl | rfl) | h
  ·omega
  ·omega
  ·omega
  ·omega
  ·omega
  ·exact hb b h
 have Lw:∀a c:List Nat,(∀b∈a,b<256)->(∀b∈c,b<256)->∀b∈bX a c,b<256:=by
  intro a c ha hc b hx;unfold bX at hx;split at hx
  ·exact hc b hx
  ·exact ha b hx
 exact Lw _ _ (Lw _ _ hs h2.2) h3.1.2
theorem ru{E:Nat->En}{len:Nat}{L:List It}(h:lD E len L)(hc:fT E len=0):∀b∈bT L,b<256:=by
 refine Da (λx hx=>?_);obtain⟨j,hj,rfl⟩:=List.getElem_of_mem hx;obtain⟨bs,hp,e⟩:=h.2 j L[j] (List.getElem?_eq_getElem hj);have h9:=(kD hc).2 j (by rw[<-h.1];exact hj);rw[e];refine⟨λb hb=>pT _ b hb,λb hb=>?_⟩;have hb:b∈d8 (E j) bs:=hb;unfold d8 at hb;split at hb
 ·exact D9 hp (pT _) (by rw[dX];omega) b hb
 ·exact pT _ b hb
theorem gQ(w:World)(hx:Mxl w)(hT:Tab w):
  Calls Tryz.prog 5 #[] w λe w'=>e=.returned (.bool true)/\Same w w':=by
 have HX:Hid (Mxl w):=hx;have HT:Hid (Tab w):=hT;have H1:=kr w none 0 0 I3 (λj hj=>by omega) (Nat.le_refl _) hx hT rfl;clear hx hT;go_enter Tryz.func5,Tryz.ntmps5;go_wp2_with fail;refine H1.mono ?_;rintro e w1 ⟨v1,L1,rfl,hf1,hi1⟩;rw[Mf hi1]at hf1;obtain⟨a1,c1,fA,_,hbz⟩:=hf1.row.shape8;obtain⟨g1,LG,hb1⟩:=hbz (by decide +kernel);clear hbz;subst LG;have kY:(eO 0 0 0).length=22:=rfl;rw[kY]at fA;subst fA;have HR1:Hid (Row w1 (.slice (some ⟨g1,0,none⟩) 22 c1) (eO 0 0 0)):=hid hf1.row;have HC1:Hid (w1.cell? ⟨g1,0,none⟩=some (.int .u8 80)):=hid (hb1 0 (by decide +kernel));have HK1:Hid (Same w w1):=hid hf1.kept;obtain⟨W2,lN⟩:∃W,W=w1.alloc (.cells #[.string ⟨#[97]⟩,.string ⟨#[111,110,101]⟩,.string ⟨#[98,47,99]⟩,.string ⟨#[116,119,111]⟩] 42):=⟨_,rfl⟩
 have HKW2:Hid (Same w1 W2):=hid (by rw[lN];exact(Kept.refl _ w1).alloc _);have H2:=kr W2 (some ⟨w1.heap.size,0,none⟩) 2 2 I3 (by rw[lN];exact rp w1 _ _ _ _) (Nat.le_refl _) (HX.out.kept (Same.trans HK1.out HKW2.out) (λf=>f)) (HT.out.kept (Same.trans HK1.out HKW2.out) (λf=>f)) pF;clear H1 hf1 hi1 hb1 kY;go_wp2_with fail;rw[<-lN];clear lN;refine H2.mono ?_;rintro e w3 ⟨v3,L3,rfl,hf3,Ig⟩;obtain⟨LL,Fc,Ns⟩:=JF Ig;have MO:=ru Ig pF;have P5:=kw Ig pF;obtain⟨F,hF⟩:∃F,F=bT L3:=⟨_,rfl⟩
 rw[<-hF]at hf3 Fc Ns MO P5;obtain⟨a3,c3,sk,Iy,_⟩:=hf3.row.shape8;obtain⟨n3,hn3⟩:∃n,n=F.length:=⟨_,rfl⟩
 rw[<-hn3]at sk Iy P5;subst sk;have HK3:Hid (Same w1 w3):=hid (Same.trans HKW2.out hf3.kept);have H3:=vK w3 a3 n3 c3 F hf3.row.low8 hn3 MO Iy (by omega) (HX.out.kept (Same.trans HK1.out HK3.out) (λf=>f)) (λL hL=>UnpOk.zero w3 L (by rw[Fc]at hL;simp only[Except.ok.injEq]at hL;rw[<-hL];exact LL));rw[Ns]at H3;clear H2 hf3 Ig LL Fc Ns MO Iy hF hn3;go_wp2_with fail;refine H3.mono ?_;intro e w4 h4;obtain⟨a4,n4,c4,rfl,hr4,hn4⟩:=h4.2.1 _ rfl;have hn4:n4=2:=hn4;subst hn4;have HK4:Hid (Same w1 w4):=hid (Same.trans HK3.out h4.2.2);have HR4:Hid (RowC w3.heap.size 42 2 yL w4 (.slice a4 2 c4) ([(sb a8,sb GI),(sb NC,sb Hu)].map mS)):=hr4;obtain⟨W5,KP⟩:∃W,W=w4.alloc (.cells #[.string ⟨#[97]⟩,.string ⟨#[]⟩,.string ⟨#[97]⟩,.string ⟨#[]⟩] 42):=⟨_,rfl⟩
 have HKW5:Hid (Same w1 W5):=hid (Same.trans HK4.out (by rw[KP];exact(Kept.refl _ w4).alloc _));have HKW45:Hid (Same w4 W5):=hid (by rw[KP];exact(Kept.refl _ w4).alloc _);have Uz:(λj=>if j=0 then(⟨⟨#[97]⟩,⟨#[]⟩⟩:En) else⟨⟨#[97]⟩,⟨#[]⟩⟩)=Qi:=by funext j;unfold Qi a8 Le;split<;>rfl
 have H5:=qJ W5 (some ⟨w4.heap.size,0,none⟩) 2 2 Qi (by rw[KP,<-Uz];exact rp w4 _ _ _ _) (by decide) (Nat.le_refl _) (HX.out.kept (Same.trans HK1.out HKW5.out) (λf=>f)) (by rw[Bh];decide);rw[Bh]at H5;clear H3 h4 hr4 Uz;go_wp2_with fail;rw[<-KP];clear KP;refine H5.mono ?_;rintro e w6 ⟨rfl,hk6⟩;have HK6:Hid (Same w1 w6):=hid (Same.trans HKW5.out hk6);have HK46:Hid (Same w4 w6):=hid (Same.trans HKW45.out hk6);have H6:=DH w6 _ _ (eO 0 0 0) (Src.ofRow (HR1.out.kept HK6.out (λ_ _ f=>f))) (by decide +kernel);rw[show(eO 0 0 0).length=22 from rfl]at H6;clear H5 hk6;go_wp2_with fail;refine H6.mono ?_;rintro e w7 ⟨g7,rfl,Lh,dk,Um⟩;have HK7:Hid (Same w6 w7):=dk;have HR7:Hid (Row w7 (.slice (some ⟨g7,0,none⟩) 22 23) (eO 0 0 0)):=hid (Row.cut Lh);have HN7:Hid (w6.heap.size<=g7):=Um;clear H6 Lh dk Um;go_wp2_with (at_builtin;refine bi _ rfl (.tmp 36) (.tmp 37) rfl _ (eO 0 0 0) rfl (HR7.out.kept (show Same _ _ from(Kept.refl _ _).alloc _) (λ_ _ f=>f)) _ _ [0] rfl (λn c e=>by cases e) (J3 w7 [0] 1 rfl) (by decide +kernel) ?_;intro v8 w8 hr8 Lr OM;have HR8:Hid (Row w8 v8 (eO 0 0 0++[0])):=hr8;have HK8:Hid (Same w6 w8):=hid ((Same.trans HK7.out (show Same w7 (w7.alloc (.cells #[.int .u8 0] 5)) from(Kept.refl _ _).alloc _)).then ((Kept.refl (λk=>(Value.slice (some ⟨g7,0,none⟩) 22 23).ownBlock=some k) _).grown Lr (λk e=>.inl e)) (λx hx e=>by have:=HN7.out;simp only[Value.ownBlock,Option.some.injEq]at e;omega));obtain⟨T7,c8,KW,CC,_⟩:=hr8.shape8;have KW:v8=.slice T7 23 c8:=KW;have CC:23<=c8:=CC;subst KW;clear hr8 Lr OM);have H9:=qX w8 T7 23 c8 (eO 0 0 0++[0]) HR8.out.low8 rfl (by decide +kernel) CC (by decide) (HX.out.kept (Same.trans HK1.out (Same.trans HK6.out HK8.out)) (λf=>f));rw[Mm]at H9;refine H9.mono ?_;intro e w9 h9;obtain rfl:=h9.1 81 rfl;have HK9:Hid (Same w6 w9):=hid (Same.trans HK8.out h9.2.2);clear H9 h9 CC;have b0:w9.cell? ⟨g1,0,none⟩=some (.int .u8 80):=(Same.trans HK6.out HK9.out).cell HC1.out (λf=>f);obtain⟨Rp,K3⟩:∃W,W=w9.alloc (.cells #[.string ⟨#[97]⟩,.string ⟨#[111,110,101]⟩,.string ⟨#[98,47,99]⟩,.string ⟨#[116,119,111]⟩] 42):=⟨_,rfl⟩
 have HKW10:Hid (Same w9 Rp):=hid (by rw[K3];exact(Kept.refl _ w9).alloc _);have Ih:=HR4.out.kept (Same.trans HK46.out (Same.trans HK9.out HKW10.out)) (λ_ _ f=>f);have MH:∀j,j<2->(([(sb a8,sb GI),(sb NC,sb Hu)].map mS).getD j default)=I3 j:=by
  intro j hj
  match j,hj with
  | 0,_=>show mS (sb a8,sb GI)=_;unfold mS;simp only[oB];rfl
  | 1,_=>show mS (sb NC,sb Hu)=_;unfold mS;simp only[oB];rfl
 have LJ:Ents Rp (λ_=>True) a4 2 I3:=by intro j hj;obtain⟨b,o,h1,h2,h3,h4⟩:=Ents.ofRow Ih rfl j hj;exact⟨b,o,h1,h2,by rw[<-MH j hj];exact h3,by rw[<-MH j hj];exact h4⟩
 have H10:=zS Rp a4 (some ⟨w9.heap.size,0,none⟩) 2 c4 2 I3 _ _ LJ (by rw[K3];exact rp w9 _ _ _ _) (by decide);clear Ih MH LJ;go_wp2_with fail;rw[<-K3];clear K3;refine H10.mono ?_;rintro e Uv ⟨rfl,Ox⟩;have HK11:Hid (Same w6 Uv):=hid (Same.trans HK9.out (Same.trans HKW10.out Ox));have H11:=mE Uv ⟨#[97,47,98,46,116,120,116]⟩ (HX.out.kept (Same.trans HK1.out (Same.trans HK6.out HK11.out)) (λf=>f));rw[show eZ (sb ⟨#[97,47,98,46,116,120,116]⟩)=true by decide +kernel]at H11;clear H10 Ox;go_wp2_with fail;refine H11.mono ?_;rintro e TC ⟨rfl,hk12⟩;have HK12:Hid (Same w6 TC):=hid (Same.trans HK11.out hk12);have H12:=mE TC ⟨#[97,47,47,98]⟩ (HX.out.kept (Same.trans HK1.out (Same.trans HK6.out HK12.out)) (λf=>f));rw[show eZ (sb ⟨#[97,47,47,98]⟩)=false by decide +kernel]at H12;clear H11 hk12;go_wp2_with fail;refine H12.mono ?_;rintro e Yg ⟨rfl,P8⟩;have HK13:Hid (Same w Yg):=hid (Same.trans HK1.out (Same.trans HK6.out (Same.trans HK12.out P8)));clear H12 P8;go_wp2_with fail;go_ret;exact⟨rfl,HK13.out⟩
theorem G0{N:Nat}{w:World}{x:Itv}{y:It}(h:ItAt N w x y)(hT:Tab w):Calls Tryz.prog 30 #[.agg (jr x.m (.slice x.a x.n x.c))] w λe w'=>UnpZ w w' (df y) e:=by
 obtain⟨a,ha⟩:=h.ck;obtain⟨_,_,hw,hz,hp,_⟩:=iX ha;rcases hw with hw | hw
 ·exact sJ h hw
 ·rw[h.lab];have e:df y=df ⟨y.lab,y.bytes⟩:=rfl;rw[e];exact wj w y.lab x.a x.n x.c _ y.bytes h.src h.byte (by have:=h.pk;omega) h.len hw hz h.adr hT
theorem UnpOk.any{w:World}(hT:Tab w)(L:List It):UnpOk w L:=λ_ _ _ _ _ hi hk=>G0 hi (hT.kept hk (λf=>f))
theorem pG{E:Nat->En}{len:Nat}{L:List It}(h:lD E len L)(hc:fT E len=0){j:Nat}{x:It}(hx:L[j]? = some x):df x=.ok (sb (E j).d)/\x.lab.name=sb (E j).n/\j<len:=by have hj:=(List.getElem?_eq_some_iff.1 hx).1;rw[h.1]at hj;obtain⟨bs,hp,e⟩:=h.2 j x hx;rw[e];exact⟨JM hp ((kD hc).2 j hj).2,rfl,hj⟩
def pa(x:It)(p v:Nat):It:=⟨x.lab,x.bytes.set p v⟩
theorem sS{x x':It}(hl:x'.lab=x.lab)(hb:x'.bytes.length=x.bytes.length):∀(L:List It) (i:Nat),L[i]? = some x->(aN (L.set i x')).length=(aN L).length/\∀at',bz at' (L.set i x')=bz at' L
 | [],i,h=>by simp at h
 | y::L,0,h=>by simp only[List.getElem?_cons_zero,Option.some.injEq]at h;subst h;have hp:(lk x').length=(lk y).length:=(by rw[fM,fM,hl,hb]);refine⟨by rw[List.set_cons_zero,da,da,List.length_append,List.length_append,hp],λat'=>?_⟩;rw[List.set_cons_zero,bz,bz,hp,hl]
 | y::L,i+1,h=>by simp only[List.getElem?_cons_succ]at h;obtain⟨h1,h2⟩:=sS hl hb L i h;refine⟨by rw[List.set_cons_succ,da,da,List.length_append,List.length_append,h1],λat'=>?_⟩;rw[List.set_cons_succ,bz,bz,h2]
theorem ko{L:List It}{i:Nat}{x:It}(h:L[i]? = some x):bT L=(aN (L.take i)++ig x.lab)++(x.bytes++(aN (L.drop (i+1))++(bz 0 L++eO L.length (bz 0 L).length (aN L).length))):=by
 obtain⟨hi,hx⟩:=List.getElem?_eq_some_iff.1 h;have e:aN L=aN (L.take i)++(ig x.lab++x.bytes++aN (L.drop (i+1))):=by
  have e1:L=L.take i++x::L.drop (i+1):=(by rw[<-hx,<-List.drop_eq_getElem_cons hi,List.take_append_drop]);conv=>lhs;rw[e1]
  unfold aN;rw[List.flatMap_append,List.flatMap_cons];rfl
 unfold bT;generalize bz 0 L++eO L.length (bz 0 L).length (aN L).length=T;rw[e];simp only[List.append_assoc]
section
variable {L:List It} {i:Nat} {x:It} {p v:Nat}
def L6(L:List It)(i:Nat)(x:It):Nat:=(aN (L.take i)).length+30+x.lab.name.length
theorem mY(L:List It)(i:Nat)(x:It):(aN (L.take i)++ig x.lab).length=L6 L i x:=by rw[List.length_append,oU];unfold L6;omega
theorem JX(h:L[i]? = some x)(hp:p<x.bytes.length):(bT L)[L6 L i x+p]? = some x.bytes[p]:=by rw[ko h,List.getElem?_append_right (by rw[mY];omega),mY,Nat.add_sub_cancel_left,List.getElem?_append_left hp,List.getElem?_eq_getElem hp]
theorem qy(h:L[i]? = some x)(hp:p<x.bytes.length):bT (L.set i (pa x p v))=(bT L).set (L6 L i x+p) v:=by have hi:=(List.getElem?_eq_some_iff.1 h).1;obtain⟨h1,h2⟩:=sS (x:=x) (x':=pa x p v) rfl (by show(x.bytes.set p v).length=_;rw[List.length_set]) L i h;rw[ko h,ko (L:=L.set i (pa x p v)) (i:=i) (x:=pa x p v) (by rw[List.getElem?_set_self hi]),List.take_set_of_le (Nat.le_refl _),List.drop_set_of_lt (Nat.lt_succ_self _),h1,h2,List.length_set];show(aN (L.take i)++ig x.lab)++(x.bytes.set p v++_)=_;rw[List.set_append_right _ _ (by rw[mY];omega),mY,Nat.add_sub_cancel_left,List.set_append_left _ _ hp]
end
theorem DI(cs:List Nat)(p d:Nat)(h:p<cs.length):List.zipWith (· ^^^ ·) (cs.set p (cs[p] ^^^ d)) cs=List.replicate p 0++[d]++List.replicate (cs.length-p-1) 0:=by
 apply List.ext_getElem
 ·simp;omega
 ·intro j h1 h2;simp at h1;rw[List.getElem_zipWith,List.getElem_set];by_cases e:p=j
  ·subst e;rw[if_pos rfl,List.getElem_append_left (by simp),List.getElem_append_right (by simp)];simp;rw[Nat.xor_comm,<-Nat.xor_assoc,Nat.xor_self,Nat.zero_xor]
  ·rw[if_neg e,Nat.xor_self];by_cases e2:j<p
   ·rw[List.getElem_append_left (by simp;omega),List.getElem_append_left (by simp;exact e2)];simp
   ·rw[List.getElem_append_right (by simp;omega)];simp
theorem AH(cs:List Nat)(hb:∀b∈cs,b<256)(p d:Nat)(h:p<cs.length)(hd:d<256)(h0:d≠0):more 0 (cs.set p (cs[p] ^^^ d))≠more 0 cs:=λe=>by
 have hx:cs[p] ^^^ d<256:=by have:=hb cs[p] (List.getElem_mem _);exact Nat.xor_lt_two_pow (n:=8) this hd
 have hb2:∀b∈cs.set p (cs[p] ^^^ d),b<256:=λb hb3=>by
  rcases List.mem_or_eq_of_mem_set hb3 with h1 | h1
  ·exact hb b h1
  ·rw[h1];exact hx
 have e1:=Et (rB (nt _) _ hb2) (rB (nt _) _ hb) e;exact h0 (Dd (iT 0) _ cs (by rw[List.length_set]) p (cs.length-p-1) [d] (λb hb3=>by rw[List.mem_singleton.1 hb3];exact hd) (by simp) (DI cs p d h) e1 d (by simp))
theorem ya{k:Nat}{x:It}(hu:df x=.error k):∀(L:List It) (i:Nat),L[i]? = some x->(∀j y,j<i->L[j]? = some y->∃d,df y=.ok d)->io L=.error k
 | [],i,h,_=>by simp at h
 | y::L,0,h,_=>by simp only[List.getElem?_cons_zero,Option.some.injEq]at h;subst h;rw[io,hu]
 | y::L,i+1,h,hb=>by simp only[List.getElem?_cons_succ]at h;obtain⟨d,hd⟩:=hb 0 y (by omega) rfl;rw[io,hd];simp only;rw[ya hu L i h (λj z hj hz=>hb (j+1) z (by omega) (by simpa using hz))]
section
variable {E:Nat->En} {len:Nat} {L:List It} {i:Nat} {x:It} {p d:Nat}
theorem xF(h:lD E len L)(hc:fT E len=0)(hx:L[i]? = some x)(hw:x.lab.way=0)(hp:p<x.bytes.length)(hd:d<256)(h0:d≠0):
  fV (bT (L.set i (pa x p (x.bytes[p] ^^^ d))))=.ok (L.set i (pa x p (x.bytes[p] ^^^ d)))/\EY (bT (L.set i (pa x p (x.bytes[p] ^^^ d))))=.error 83/\D4 (bT (L.set i (pa x p (x.bytes[p] ^^^ d)))) x.lab.name=.error 83/\(L.set i (pa x p (x.bytes[p] ^^^ d))).map (·.lab)=L.map (·.lab)/\(∀b∈bT (L.set i (pa x p (x.bytes[p] ^^^ d))),b<256):=by
 have hi:=(List.getElem?_eq_some_iff.1 hx).1;obtain⟨o1,o2,o3⟩:=uI h hc;have tK:=ru h hc;have ie:∀b∈x.bytes,b<256:=λb hb=>by refine tK b ?_;rw[ko hx];exact List.mem_append.2 (.inr (List.mem_append.2 (.inl hb)))
 have hv:x.bytes[p] ^^^ d<256:=Nat.xor_lt_two_pow (n:=8) (ie _ (List.getElem_mem _)) hd;obtain⟨x',Ny⟩:∃x',x'=pa x p (x.bytes[p] ^^^ d):=⟨_,rfl⟩
 have NX:x'.lab=x.lab:=by rw[Ny];rfl
 have pK:(L.set i x').map (·.lab)=L.map (·.lab):=by
  rw[List.map_set,NX];apply List.ext_getElem?;intro j;by_cases e:i=j
  ·subst e;rw[List.getElem?_set_self (by simpa using hi),List.getElem?_map,hx];rfl
  ·rw[List.getElem?_set_ne e]
 have vk:bM (L.set i x')=bM L:=by
  have e1:∀M:List It,bM M=(M.map (·.lab)).map (·.name):=λM=>by unfold bM;rw[List.map_map];rfl
  rw[e1,e1,pK]
 have ag:(bT (L.set i x')).length=(bT L).length:=by rw[Ny,qy hx hp,List.length_set]
 have Cs:fV (bT (L.set i x'))=.ok (L.set i x'):=by
  refine sF _ (λy hy=>?_) (by rw[vk];exact o2) (by rw[List.length_set];exact o3) (by rw[ag];exact kw h hc);rcases List.mem_or_eq_of_mem_set hy with e | e
  ·exact o1 y e
  ·rw[e];have ho:=o1 x (List.mem_of_getElem? hx);exact⟨by rw[NX];exact ho.lab,by rw[NX,Ny];show(x.bytes.set p _).length=_;rw[List.length_set];exact ho.len,by rw[NX];exact ho.ok⟩
 have sj:x.lab.sum=more 0 x.bytes:=by
  obtain⟨bs,_,e⟩:=h.2 i x hx;rw[e]at hw ⊢;have hw2:¬bs.length<(E i).d.size:=λe2=>by have h9:(dZ (E i) bs).way=8:=if_pos e2;have h8:(dZ (E i) bs).way=0:=hw;rw[h9]at h8;cases h8
  show more 0 (sb (E i).d)=more 0 (d8 (E i) bs);unfold d8;rw[if_neg hw2]
 have LR:df x'=.error 83:=by unfold df;rw[NX,hw,if_neg (by decide),sj,if_neg];rw[Ny];exact AH x.bytes ie p d hp hd h0
 have hold:∀j y,j<i->(L.set i x')[j]? = some y->∃d,df y=.ok d:=λj y hj hy=>by rw[List.getElem?_set_ne (by omega)]at hy;exact⟨_,(pG h hc hy).1⟩
 rw[<-Ny];refine⟨Cs,?_,?_,pK,?_⟩
 ·unfold EY;rw[Cs];exact ya LR _ i (List.getElem?_set_self hi) hold
 ·unfold D4;rw[Cs];simp only;unfold G3;have hf:(L.set i x').find? (λy=>decide (y.lab.name=x.lab.name))=some x':=by
   rw[List.find?_eq_some_iff_getElem];refine⟨by simp[NX],i,by rw[List.length_set];exact hi,by rw[List.getElem_set_self],λj hj=>?_⟩;rw[List.getElem_set_ne (by omega)];have h2:=(pG h hc (List.getElem?_eq_getElem (Nat.lt_trans hj hi))).2.1;have h3:=pG h hc hx;rw[h2,h3.2.1];have:=rA hc j i hj h3.2.2;simp only[Bool.not_eq_true',decide_eq_false_iff_not];exact λe=>this (GA e)
  rw[hf];exact LR
 ·rw[Ny,qy hx hp];intro b hb;rcases List.mem_or_eq_of_mem_set hb with e | e
  ·exact tK b e
  ·rw[e];exact hv
end
def Tp(E:Nat->En)(len:Nat)(b:Bool):Prop:=b=false->len<=16777216/\∀j,j<len->(E j).n.size<=16777216/\(E j).d.size<=16777216
theorem Af(w:World)(a:Option Addr)(len cap:Nat)(E:Nat→En)(hs:Ents w (fun _=>True) a len E)(hn:len≤reachBytes)(hz:∀j,j<len→(E j).n.size≤reachBytes∧(E j).d.size≤reachBytes):
  Calls Tryz.prog 4 #[.slice a len cap] w λe w'=>(∃b,e=.returned (.bool b)/\Tp E len b)/\Same w w':=by
 have HS:Hid (Ents w (λ_=>True) a len E):=hs;have HZ:Hid (∀j,j<len->(E j).n.size<=140737488351232/\(E j).d.size<=140737488351232):=hz;have hn2:len<=140737488351232:=hn;clear hs hz hn;go_enter Tryz.func4,Tryz.ntmps4;go_wp2_with fail;go_loopg [3,4] len (λk z3 z4 wr=>∃i n:Nat,len-i<=k/\i<=len/\z3=.int .i64 (n:Nat)/\z4=.int .i64 (i:Nat)/\n<=422212465065984/\Hid (len<=n/\∀j,j<i->(E j).n.size<=n/\(E j).d.size<=n)/\Hid (Same w wr))
 case atStart=>exact⟨0,len,by omega,by omega,rfl,rfl,by omega,hid ⟨Nat.le_refl _,λj hj=>by omega⟩,hid (Kept.refl _ _)⟩
 case round=>
  obtain⟨i,n,hk,yr,rfl,rfl,hnb,HN,HK⟩:=hrel;by_cases hlt:i<len
  ·have nM:decide (i<len)=true:=(by simp;omega);by_cases hm:n<=16777216
   ·have lu:decide ((n:Int)<=16777216)=true:=(by simp;omega);have R9:decide (n<=16777216)=true:=(by simp;omega);obtain⟨b,o,ha,_,mj,fF⟩:=HS.out i hlt;subst ha;have mj:=HK.out.cell mj (λf=>f);have fF:=HK.out.cell fF (λf=>f);obtain⟨y,hy⟩:∃y,y=E i:=⟨_,rfl⟩
    have To:=HZ.out i hlt;rw[<-hy]at mj fF To;have HY:Hid (y=E i):=hy;have EP:IntKind.i64.wrap ((i:Int)+1)=((i+1:Nat):Int):=(by rw[IntKind.wrap_i64];omega);obtain⟨s0,CB⟩:∃s,s=y.n.size:=⟨_,rfl⟩
    obtain⟨s1,hs1⟩:∃s,s=y.d.size:=⟨_,rfl⟩
    obtain⟨n1,hn1⟩:∃m,m=n+s0:=⟨_,rfl⟩
    obtain⟨n2,Tb⟩:∃m,m=n1+s1:=⟨_,rfl⟩
    have g0:(y.n.size:Int)=(s0:Int):=(by rw[CB]);have g1:(y.d.size:Int)=(s1:Int):=(by rw[hs1]);rw[<-CB,<-hs1]at To;have q1:(n:Int)+(s0:Int)=(n1:Int):=(by omega);have q1w:IntKind.i64.wrap (n1:Int)=(n1:Int):=(by rw[IntKind.wrap_i64];omega);have q2:(n1:Int)+(s1:Int)=(n2:Int):=(by omega);have q2w:IntKind.i64.wrap (n2:Int)=(n2:Int):=(by rw[IntKind.wrap_i64];omega);have i1:(0:Int)<=(i:Int):=(by omega);have i2:(i:Int)<(len:Int):=(by omega);have hb2:n2<=422212465065984:=(by omega);have HNN:Hid (n<=n2/\y.n.size<=n2/\y.d.size<=n2):=hid (by omega);clear hy CB hs1 hn1 Tb To hm;go_wp2_with fail;go_quiet (fail);go_wp2_with fail;go_roundg (gk-1)
    case measure=>omega
    case rel=>
     refine⟨i+1,n2,by omega,by omega,rfl,by go_num,hb2,hid ⟨by have:=HN.out.1;have:=HNN.out.1;omega,λj hj=>?_⟩,hid (HK.out.drewN _)⟩;by_cases e:j=i
     ·rw[e,<-HY.out];exact HNN.out.2
     ·have h9:=HN.out.2 j (by omega);have:=HNN.out.1;omega
   ·have lu:decide ((n:Int)<=16777216)=false:=(by simp;omega);have R9:decide (n<=16777216)=false:=(by simp;omega);have Zv:decide ((16777216:Int)<(n:Int))=true:=(by simp;omega);have VO:decide (16777216<n)=true:=(by simp;omega);clear hm;go_wp2_with fail;go_ret;exact⟨⟨_,rfl,λe=>by simp at e⟩,HK.out⟩
  ·have nM:decide (i<len)=false:=(by simp;omega);have HIL:Hid (i=len):=hid (by omega);obtain⟨B,hB⟩:∃B,B=decide ((16777216:Int)<(n:Int)):=⟨_,rfl⟩
   have ZS:=hB.symm;have HB:Hid (B=false->n<=16777216):=hid (λe=>by rw[e]at hB;simp at hB;omega);have HNB:Hid (len<=n/\∀j,j<len->(E j).n.size<=n/\(E j).d.size<=n):=hid ⟨HN.out.1,λj hj=>HN.out.2 j (by have:=HIL.out;omega)⟩;clear hB hlt;go_wp2_with fail;go_ret;refine⟨⟨_,rfl,λe=>?_⟩,HK.out⟩;have h8:n<=16777216:=by
    first
     | exact HB.out e
     | (simp at e;omega)
   exact⟨by have:=HNB.out.1;omega,λj hj=>by have:=HNB.out.2 j hj;omega⟩
theorem y3{B1 B2:Nat}(w:World)(a b:Option Addr)(n m c1 c2:Nat)(M:List Mk)(h1:RowC B1 34 5 jM w (.slice a n c1) M)(h2:RowC B2 34 5 jM w (.slice b m c2) M)(hl:M.length≤1000):
  Calls Tryz.prog 10 #[.slice a n c1,.slice b m c2] w λe w'=>e=.returned (.bool true)/\Same w w':=by
 have hn:n=M.length:=by obtain⟨_,_,e,_⟩:=h1.shape;simp only[Value.slice.injEq]at e;exact e.2.1
 have hm:m=n:=by obtain⟨_,_,e,_⟩:=h2.shape;simp only[Value.slice.injEq]at e;rw[hn];exact e.2.1
 subst hm;have HA:Hid (RowC B1 34 5 jM w (.slice a m c1) M/\RowC B2 34 5 jM w (.slice b m c2) M/\m=M.length/\M.length<=1000):=hid ⟨h1,h2,hn,hl⟩;clear h1 h2 hn hl;have q0:((m:Int) != (m:Int))=false:=by simp
 go_enter Tryz.func10,Tryz.ntmps10;go_wp2_with fail;go_loopg [5] m (λqq z wr=>∃i:Nat,z=.int .i64 (i:Nat)/\i<=m/\m-i<=qq/\Hid (Same w wr))
 case atStart=>exact⟨0,rfl,by omega,by omega,hid (Kept.refl _ _)⟩
 case round=>
  obtain⟨i,rfl,hi,Lv,HI⟩:=hrel;by_cases hlt:i<m
  ·have b1:decide (i<m)=true:=(by simp;omega);have yr:i<M.length:=(by have:=HA.out;omega);obtain⟨g,p1,hv,_,hc⟩:=HA.out.1.at8 um i yr;obtain⟨g',p2,iO,_,EB⟩:=HA.out.2.1.at8 um i yr;simp only[Value.slice.injEq]at hv iO;have e1:=hv.1;have e2:=iO.1;clear hv iO;subst e1 e2;obtain⟨x,hx⟩:∃x,x=M[i]:=⟨_,rfl⟩
   rw[<-hx]at hc EB;obtain⟨t,ht⟩:∃t,t=bH x.name:=⟨_,rfl⟩
   obtain⟨s,hs⟩:∃s,s=x.size:=⟨_,rfl⟩
   obtain⟨pk,Bg⟩:∃s,s=x.packed:=⟨_,rfl⟩
   obtain⟨sm,gp⟩:∃s,s=x.sum:=⟨_,rfl⟩
   obtain⟨wy,MD⟩:∃s,s=x.way:=⟨_,rfl⟩
   have HC:∀k u,(∀i',i'<5->w.cell? ⟨k,i*5+i',none⟩=(jM x)[i']?)->(jM x)[u]?≠none->u<5->wr.cell? ⟨k,i*5+u,none⟩=(jM x)[u]?:=λk u h _ hu=>by
    have h9:=h u hu;cases hh:(jM x)[u]? with
    | none=>contradiction
    | some y=>rw[hh]at h9;exact HI.out.cell h9 (λf=>f)
   have k0:wr.cell? ⟨g,i*5,none⟩=some (.string t):=(by rw[ht];exact HC g 0 hc (by simp[jM]) (by decide));have k1:wr.cell? ⟨g,i*5+1,none⟩=some (.int .i64 (s:Nat)):=(by rw[hs];exact HC g 1 hc (by simp[jM]) (by decide));have k2:wr.cell? ⟨g,i*5+2,none⟩=some (.int .i64 (pk:Nat)):=(by rw[Bg];exact HC g 2 hc (by simp[jM]) (by decide));have k3:wr.cell? ⟨g,i*5+3,none⟩=some (.int .u32 (sm:Nat)):=(by rw[gp];exact HC g 3 hc (by simp[jM]) (by decide));have k4:wr.cell? ⟨g,i*5+4,none⟩=some (.int .i64 (wy:Nat)):=(by rw[MD];exact HC g 4 hc (by simp[jM]) (by decide));have l0:wr.cell? ⟨g',i*5,none⟩=some (.string t):=(by rw[ht];exact HC g' 0 EB (by simp[jM]) (by decide));have l1:wr.cell? ⟨g',i*5+1,none⟩=some (.int .i64 (s:Nat)):=(by rw[hs];exact HC g' 1 EB (by simp[jM]) (by decide));have l2:wr.cell? ⟨g',i*5+2,none⟩=some (.int .i64 (pk:Nat)):=(by rw[Bg];exact HC g' 2 EB (by simp[jM]) (by decide));have l3:wr.cell? ⟨g',i*5+3,none⟩=some (.int .u32 (sm:Nat)):=(by rw[gp];exact HC g' 3 EB (by simp[jM]) (by decide));have l4:wr.cell? ⟨g',i*5+4,none⟩=some (.int .i64 (wy:Nat)):=(by rw[MD];exact HC g' 4 EB (by simp[jM]) (by decide));have i1:(0:Int)<=(i:Int):=(by omega);have i2:(i:Int)<(m:Int):=(by omega);have EP:IntKind.i64.wrap ((i:Int)+1)=((i+1:Nat):Int):=(by rw[IntKind.wrap_i64];have:=HA.out;omega);have HX:Hid (i<m):=hlt;clear HC hc EB ht hs Bg gp MD hx hlt yr;go_wp2_with fail;go_quiet (fail);go_wp2_with fail;go_roundg (gk-1)
   case measure=>have:=HX.out;omega
   case rel=>exact⟨i+1,by go_num,by have:=HX.out;omega,by have:=HX.out;omega,hid (HI.out.drewN _)⟩
  ·have b1:decide (i<m)=false:=(by simp;omega);go_wp2_with fail;go_ret;exact⟨rfl,HI.out⟩
theorem Ep(y v:Nat)(hy:y<256)(hv:v<256):bits .xor .u8 (y:Int) (v:Int)=((y ^^^ v:Nat):Int):=u8_xor_nat y v hy hv
theorem zX{L:List It}{i:Nat}{x:It}(h:L[i]? = some x):(aN (L.take (i+1))).length=(aN (L.take i)).length+30+x.lab.name.length+x.bytes.length:=by rw[List.take_add_one,h];show(aN (L.take i++[x])).length=_;rw[ox,List.length_append,fM];omega
theorem Aj(a:Option Addr)(len cap:Nat)(E:Nat→En)(z:Int)(V:Nat)(W:World)(he:Ents W (fun _=>True) a len E)(hc:len≤cap)(hr:len≤reachBytes)(hz:∀j,j<len→(E j).n.size≤reachBytes∧(E j).d.size≤reachBytes)(iN:-9223372036854775808≤z∧z≤9223372036854775807)(hV:V<256)(hT:Tab W)(hx:Mxl W):
  Calls Tryz.prog 3 #[.slice a len cap,.int .i64 z,.int .u8 (V:Nat)] W λe w'=>e=.returned (.bool true)/\Same W w':=by
 have HL:=Af W a len cap E he hr hz;have HS:Hid (Ents W (λ_=>True) a len E):=he;have HX:Hid (Mxl W):=hx;have HT:Hid (Tab W):=hT;have HC:Hid (len<=cap):=hc;clear he hz hx hT hr hc;go_enter Tryz.func3,Tryz.ntmps3;go_wp2_with fail;refine HL.mono ?_;rintro e w1 ⟨⟨b,rfl,RY⟩,hk1⟩;have HK1:Hid (Same W w1):=hk1;have HLG:Hid (Tp E len b):=RY;clear hk1 HL RY;cases b with
 | true=>
  have HA:=gQ w1 (HX.out.kept HK1.out (λf=>f)) (HT.out.kept HK1.out (λf=>f));go_wp2_with fail;refine HA.mono ?_;rintro e w2 ⟨rfl,hk2⟩;have HK2:Hid (Same W w2):=hid (Same.trans HK1.out hk2);clear hk2 HA;go_wp2_with fail;go_ret;exact⟨rfl,HK2.out⟩
 | false=>
  have ag:len<=16777216:=(HLG.out rfl).1;by_cases Sh:V=0
  ·subst Sh;have HA:=gQ w1 (HX.out.kept HK1.out (λf=>f)) (HT.out.kept HK1.out (λf=>f));go_wp2_with fail;refine HA.mono ?_;rintro e w2 ⟨rfl,hk2⟩;have HK2:Hid (Same W w2):=hid (Same.trans HK1.out hk2);clear hk2 HA;go_wp2_with fail;go_ret;exact⟨rfl,HK2.out⟩
  have v0:((V:Int)==0)=false:=(by simp;omega);by_cases hck:fT E len=0
  ·have HCK:Hid (fT E len=0):=hck;have HWr:=kr w1 a len cap E (HS.out.kept HK1.out (λ_ _ f=>f)) HC.out (HX.out.kept HK1.out (λf=>f)) (HT.out.kept HK1.out (λf=>f)) hck;have HVV:Hid (V<256/\V≠0):=hid ⟨hV,Sh⟩;clear hck HLG hV Sh;go_wp2_with fail;refine HWr.mono ?_;rintro e w2 ⟨v2,L,rfl,hf2,vw⟩;have HI2:Hid (lD E len L):=vw;have PN:len<=64:=(kD HCK.out).1;have gp:=kw vw HCK.out;have HBY:Hid (∀x∈bT L,x<256):=hid (ru vw HCK.out);obtain⟨a2,c2,rL,yu,nN⟩:=hf2.row.shape8;have HG2:Hid (bT L≠[]->∃g,a2=some ⟨g,0,none⟩):=hid (λh=>by obtain⟨g,h1,_⟩:=nN h;exact⟨g,h1⟩);clear nN;obtain⟨n,hn⟩:∃n,n=(bT L).length:=⟨_,rfl⟩
   rw[<-hn]at rL yu gp;subst rL;have HR2:Hid (Row w2 (.slice a2 n c2) (bT L)):=hid hf2.row;have HN:Hid (n=(bT L).length/\n<=1048576):=hid ⟨hn,gp⟩;have HK2:Hid (Same W w2):=hid (Same.trans HK1.out hf2.kept);have HNW:Hid (∀k,(Value.slice a2 n c2).ownBlock=some k->W.heap.size<=k):=hid (λk e=>by have:=hf2.new k e;have:=HK1.out.size;omega);have b1:decide ((1048576:Int)<(n:Int))=false:=(by simp;omega);have W8:decide (1048576<n)=false:=(by simp;omega);have HLS:=qX w2 a2 n c2 (bT L) hf2.row.low8 hn HBY.out yu (by omega) (HX.out.kept HK2.out (λf=>f));rw[xe HI2.out HCK.out]at HLS;clear hf2 vw hn HWr;go_wp2_with fail;refine HLS.mono ?_;intro e w4 h4;obtain⟨a4,n4,c4,rfl,hr4,Tt⟩:=h4.2.1 _ rfl;have HN4:Hid (n4=L.length/\L.length=len/\len<=64):=hid ⟨Tt,HI2.out.1,PN⟩;have HK4:Hid (Same w2 w4):=hid h4.2.2;have HR4:Hid (RowC w2.heap.size 34 5 jM w4 (.slice a4 n4 c4) (L.map (·.lab))):=hr4;clear HLS h4 hr4 Tt b1 W8 gp PN ag;obtain⟨Z,hZ⟩:∃Z:Nat,(Z:Int)=if z<0 then -(z+1)else z:=by
    by_cases fG:z<0
    ·exact⟨(-(z+1)).toNat,by rw[if_pos fG];omega⟩
    ·exact⟨z.toNat,by rw[if_neg fG];omega⟩
   have HZ:Hid (Z<=9223372036854775807):=hid (by split at hZ<;>omega);by_cases fG:z<0;case' pos=>
    have c0:decide (z<0)=true:=(by simp;omega);have t0:IntKind.i64.wrap (z+1)=z+1:=(by rw[IntKind.wrap_i64];omega);have t1:IntKind.i64.wrap (-(z+1))=(Z:Int):=(by rw[hZ,if_pos fG,IntKind.wrap_i64];omega);clear hZ fG;go_upto_region 13 with fail
   case' neg=>
    have c0:decide (z<0)=false:=(by simp;omega);rw[if_neg fG]at hZ;subst hZ;clear fG;go_upto_region 13 with fail
   all_goals
    go_loopg [11,12] n4 (λqq z11 z12 wr=>∃i:Nat,z11=.int .i64 ((aN (L.take i)).length:Nat)/\z12=.int .i64 (i:Nat)/\i<=n4/\n4-i<=qq/\Hid (Same w4 wr))
    case atStart=>exact⟨0,by simp[aN],rfl,by omega,by omega,hid (Kept.refl _ _)⟩
    case round=>
     obtain⟨i,rfl,rfl,hi1,Lv,HKR⟩:=hrel;have HKW:Hid (Same W wr):=hid (Same.trans HK2.out (Same.trans HK4.out HKR.out));by_cases hi:i<n4
     ·have nM:decide (i<n4)=true:=(by simp;omega);have hiL:i<L.length:=(by have:=HN4.out;omega);obtain⟨x,hx⟩:∃x,x=L[i]:=⟨_,rfl⟩
      have Qp:L[i]? = some x:=(by rw[List.getElem?_eq_getElem hiL,hx]);have I7:i<(L.map (·.lab)).length:=(by simpa using hiL);obtain⟨g,p4,hv,_,ey⟩:=(HR4.out.kept HKR.out (λ_ _ f=>f)).at8 um i I7;rw[List.getElem_map,<-hx]at ey;simp only[Value.slice.injEq]at hv;have fA:=hv.1;clear hv;subst fA;have ho:=(uI HI2.out HCK.out).1 x (List.mem_of_getElem? Qp);obtain⟨t,ht⟩:∃t,t=bH x.lab.name:=⟨_,rfl⟩
      obtain⟨nm,vk⟩:∃n,n=x.lab.name.length:=⟨_,rfl⟩
      obtain⟨pk,Bg⟩:∃n,n=x.lab.packed:=⟨_,rfl⟩
      obtain⟨wy,MD⟩:∃n,n=x.lab.way:=⟨_,rfl⟩
      have Py:t.size=nm:=(by rw[ht,nz,vk]);have l0:wr.cell? ⟨g,i*5,none⟩=some (.string t):=(by have h9:=ey 0 (by decide);rw[Nat.add_zero]at h9;rw[h9,ht];rfl);have l2:wr.cell? ⟨g,i*5+2,none⟩=some (.int .i64 (pk:Nat)):=(by rw[ey 2 (by decide),Bg];rfl);have l4:wr.cell? ⟨g,i*5+4,none⟩=some (.int .i64 (wy:Nat)):=(by rw[ey 4 (by decide),MD];rfl);obtain⟨P,hP⟩:∃P,P=(aN (L.take i)).length:=⟨_,rfl⟩
      rw[<-hP];have CA:P+30+nm+pk<=n:=by have h9:=congrArg List.length (ko Qp);rw[List.length_append,mY,List.length_append]at h9;unfold L6 at h9;have:=ho.len;have:=HN.out;omega
      obtain⟨P1,XG⟩:∃P1,P1=P+30:=⟨_,rfl⟩
      obtain⟨P2,Xf⟩:∃P2,P2=P1+nm:=⟨_,rfl⟩
      have t1:(P:Int)+30=(P1:Int):=(by omega);have t2:IntKind.i64.wrap (P1:Int)=(P1:Int):=(by rw[IntKind.wrap_i64];have:=HN.out;omega);have t3:(P1:Int)+(nm:Int)=(P2:Int):=(by omega);have t4:IntKind.i64.wrap (P2:Int)=(P2:Int):=(by rw[IntKind.wrap_i64];have:=HN.out;omega);have i1:(0:Int)<=(i:Int):=(by omega);have i2:(i:Int)<(n4:Int):=(by omega);obtain⟨rm,Lj⟩:∃r,r=Z % n4:=⟨_,rfl⟩
      have m1:Int.tmod (Z:Int) (n4:Int)=(rm:Int):=(by rw[Lj];exact(Int.ofNat_tmod Z n4).symm);have ZI:(Z:Int) % (n4:Int)=(rm:Int):=(by rw[Lj];exact(Int.natCast_emod Z n4).symm);have m2:IntKind.i64.wrap (rm:Int)=(rm:Int):=(by rw[IntKind.wrap_i64];have:=Nat.mod_lt Z (show 0<n4 by omega);have:=HN4.out;omega);have m3:((n4:Int)==0)=false:=(by simp;omega);have m4:(n4:Int)≠0:=(by omega);have HXX:Hid (L[i]? = some x/\P=(aN (L.take i)).length/\nm=x.lab.name.length/\pk=x.bytes.length/\wy=x.lab.way/\t=bH x.lab.name/\P+30+nm+pk<=n/\P2=P+30+nm/\i<n4):=hid ⟨Qp,hP,vk,by rw[Bg];exact ho.len.symm,MD,ht,CA,by omega,hi⟩;clear hx Qp I7 ey ho ht vk Bg MD hP CA XG Xf hiL Lj;by_cases tQ:0<pk/\wy=0/\i=rm
      ·have d1:decide ((pk:Int) > 0)=true:=(by simp;omega);have Sq:decide ((0:Int)<(pk:Int))=true:=(by simp;omega);have d1n:decide (0<pk)=true:=(by simp;omega);have d2:((wy:Int)==0)=true:=(by simp;omega);have d3:((i:Int)==(rm:Int))=true:=(by simp;omega);obtain⟨p,hp⟩:∃p,p=Z % pk:=⟨_,rfl⟩
       have sg:p<pk:=(by rw[hp];exact Nat.mod_lt _ tQ.1);have m5:Int.tmod (Z:Int) (pk:Int)=(p:Int):=(by rw[hp];exact(Int.ofNat_tmod Z pk).symm);have YG:(Z:Int) % (pk:Int)=(p:Int):=(by rw[hp];exact(Int.natCast_emod Z pk).symm);have m6:IntKind.i64.wrap (p:Int)=(p:Int):=(by rw[IntKind.wrap_i64];have:=HN.out;have:=HXX.out;omega);have m7:((pk:Int)==0)=false:=(by simp;omega);have m8:(pk:Int)≠0:=(by omega);obtain⟨K,hK⟩:∃K,K=P2+p:=⟨_,rfl⟩
       have m9:(P2:Int)+(p:Int)=(K:Int):=(by omega);have ZT:IntKind.i64.wrap (K:Int)=(K:Int):=(by rw[IntKind.wrap_i64];have:=HN.out;have:=HXX.out;omega);have We:K<n:=(by have:=HXX.out;omega);have i3:(0:Int)<=(K:Int):=(by omega);have i4:(K:Int)<(n:Int):=(by omega);obtain⟨g2,nN⟩:=HG2.out (λe=>by have:=HN.out;rw[e]at this;simp at this;omega);subst nN;have Jd:p<x.bytes.length:=(by have:=HXX.out;omega);have hat:=JX HXX.out.1 Jd;have RX:L6 L i x+p=K:=(by unfold L6;have:=HXX.out;omega);rw[RX]at hat;obtain⟨y,hy⟩:∃y,y=x.bytes[p]:=⟨_,rfl⟩
       have hRr:Row wr (.slice (some ⟨g2,0,none⟩) n c2) (bT L):=HR2.out.kept (Same.trans HK4.out HKR.out) (λ_ _ f=>f);have QG:K<(bT L).length:=(by have:=HN.out;omega);have k0:wr.cell? ⟨g2,K,none⟩=some (.int .u8 (y:Nat)):=(by rw[hRr.cell' K QG];rw[List.getElem?_eq_getElem QG,<-hy]at hat;simp only[Option.some.injEq]at hat;rw[hat]);have z0:wr.frozen? ⟨g2,K,none⟩=false:=hRr.frozen' K;have vn:y<256:=(by rw[List.getElem?_eq_getElem QG,<-hy]at hat;simp only[Option.some.injEq]at hat;rw[<-hat];exact HBY.out _ (List.getElem_mem _));have Rk:=Ep y V vn HVV.out.1;obtain⟨U,hU⟩:∃U,U=y ^^^ V:=⟨_,rfl⟩
       rw[<-hU]at Rk;obtain⟨w5,jU⟩:∃W,W=wr.setCell ⟨g2,K,none⟩ (.int .u8 (U:Nat)):=⟨_,rfl⟩
       have hk5:Kept (·=g2) wr w5:=(by rw[jU];exact(Kept.refl (·=g2) wr).setCell _ _ (.inl rfl));have KP:Same W w5:=Kept.trans HKW.out hk5 (λ_ _ f=>f) (λk hk e=>by have:=HNW.out k (by rw[e];rfl);omega);obtain⟨L',Rl⟩:∃L',L'=L.set i (pa x p (x.bytes[p] ^^^ V)):=⟨_,rfl⟩
       obtain⟨q1,q3,q4,q5,q6⟩:=xF HI2.out HCK.out HXX.out.1 (by rw[<-HXX.out.2.2.2.2.1];exact tQ.2.1) Jd HVV.out.1 HVV.out.2;rw[<-Rl]at q1 q3 q4 q5 q6;have Bc:bT L'=(bT L).set K U:=(by rw[Rl,qy HXX.out.1 Jd,RX,<-hy,<-hU]);have hR5:Row w5 (.slice (some ⟨g2,0,none⟩) n c2) (bT L'):=(by rw[jU,Bc];exact hRr.lay K U);have hn5:n=(bT L').length:=(by rw[Bc,List.length_set];exact HN.out.1);have HLS:=qX w5 (some ⟨g2,0,none⟩) n c2 (bT L') hR5.low8 hn5 q6 yu (by have:=HN.out;omega) (HX.out.kept KP (λf=>f));rw[q1]at HLS;have H5:Hid (Row w5 (.slice (some ⟨g2,0,none⟩) n c2) (bT L')/\n=(bT L').length/\(∀b∈bT L',b<256)/\EY (bT L')=.error 83/\D4 (bT L') x.lab.name=.error 83/\L'.map (·.lab)=L.map (·.lab)/\Same W w5):=hid ⟨hR5,hn5,q6,q3,q4,q5,KP⟩;have HR45:Hid (RowC w2.heap.size 34 5 jM w5 (.slice (some ⟨g,0,none⟩) n4 c4) (L.map (·.lab))):=hid ((HR4.out.kept HKR.out (λ_ _ f=>f)).kept hk5 (λk e e2=>by have h8:=HR4.out.ge e;have h9:g2<w2.heap.size:=HR2.out.lt rfl;omega));have HKg:Hid (¬g=g2):=hid (λe=>by have h8:=HR4.out.ge (show(Value.slice (some ⟨g,0,none⟩) n4 c4).ownBlock=some g from rfl);have h9:g2<w2.heap.size:=HR2.out.lt rfl;omega);have TM:w5.cell? ⟨g,i*5,none⟩=some (.string t):=hk5.cell l0 HKg.out;have HL0:Hid (w5.cell? ⟨g,i*5,none⟩=some (.string t)):=TM;clear hat RX hy hRr QG vn hU hk5 KP q1 q3 q4 q5 q6 Bc hR5 hn5 Rl Jd hp sg hK We tQ TM;go_wp2_with fail;rw[<-jU];clear jU k0 z0 l0 l2 l4;refine HLS.mono ?_;intro e w6 h6;obtain⟨a6,n6,c6,rfl,hr6,XX⟩:=h6.2.1 _ rfl;rw[H5.out.2.2.2.2.2.1]at hr6;have HK6:Hid (Same w5 w6):=hid h6.2.2;have HR6:Hid (RowC w5.heap.size 34 5 jM w6 (.slice a6 n6 c6) (L.map (·.lab))):=hr6;have HW6:Hid (Same W w6):=hid (Same.trans H5.out.2.2.2.2.2.2 HK6.out);have HRD:=vK w6 (some ⟨g2,0,none⟩) n c2 (bT L') (H5.out.1.kept HK6.out (λ_ _ f=>f)).low8 H5.out.2.1 H5.out.2.2.1 yu (by have:=HN.out;omega) (HX.out.kept HW6.out (λf=>f)) (λL9 _=>UnpOk.any (HT.out.kept HW6.out (λf=>f)) L9);rw[H5.out.2.2.2.1]at HRD;clear HLS h6 hr6 XX;go_wp2_with fail;refine HRD.mono ?_;intro e w7 h7;obtain rfl:=h7.1 _ rfl;have HK7:Hid (Same w5 w7):=hid (Same.trans HK6.out h7.2.2);have HW7:Hid (Same W w7):=hid (Same.trans HW6.out h7.2.2);have HR67:Hid (RowC w5.heap.size 34 5 jM w7 (.slice a6 n6 c6) (L.map (·.lab))):=hid (HR6.out.kept h7.2.2 (λ_ _ f=>f));have l0:w7.cell? ⟨g,i*5,none⟩=some (.string t):=HK7.out.cell HL0.out (λf=>f);have HFD:=Fh w7 (some ⟨g2,0,none⟩) n c2 (bT L') x.lab.name (H5.out.1.kept HK7.out (λ_ _ f=>f)).low8 H5.out.2.1 H5.out.2.2.1 yu (by have:=HN.out;omega) (λb hb=>by have h9:=(pG HI2.out HCK.out HXX.out.1).2.1;rw[h9]at hb;exact pT _ b hb) (HX.out.kept HW7.out (λf=>f)) (λL9 _=>UnpOk.any (HT.out.kept HW7.out (λf=>f)) L9);rw[H5.out.2.2.2.2.1,<-HXX.out.2.2.2.2.2.1]at HFD;clear HRD h7;go_wp2_with fail;refine HFD.mono ?_;intro e w8 h8;obtain rfl:=h8.1 _ rfl;have HK8:Hid (Same w7 w8):=hid h8.2.2;have HW8:Hid (Same W w8):=hid (Same.trans HW7.out h8.2.2);have HA:=gQ w8 (HX.out.kept HW8.out (λf=>f)) (HT.out.kept HW8.out (λf=>f));clear HFD h8;go_wp2_with fail;refine HA.mono ?_;rintro e w9 ⟨rfl,hk9⟩;have HK9:Hid (Same w7 w9):=hid (Same.trans HK8.out hk9);have HW9:Hid (Same W w9):=hid (Same.trans HW8.out hk9);have HIN:=y3 w9 a6 (some ⟨g,0,none⟩) n6 n4 c6 c4 (L.map (·.lab)) (HR67.out.kept HK9.out (λ_ _ f=>f)) (HR45.out.kept (Same.trans HK7.out HK9.out) (λ_ _ f=>f)) (by rw[List.length_map];have:=HN4.out;omega);clear HA hk9;go_wp2_with fail;refine HIN.mono ?_;rintro e Yv ⟨rfl,Pu⟩;have HW10:Hid (Same W Yv):=hid (Same.trans HW9.out Pu);clear HIN Pu;go_wp2_with fail;go_ret;exact⟨rfl,HW10.out⟩
      ·obtain⟨P3,Yz⟩:∃P3,P3=P2+pk:=⟨_,rfl⟩
       have t5:(P2:Int)+(pk:Int)=(P3:Int):=(by omega);have t6:IntKind.i64.wrap (P3:Int)=(P3:Int):=(by rw[IntKind.wrap_i64];have:=HN.out;have:=HXX.out;omega);have EP:IntKind.i64.wrap ((i:Int)+1)=((i+1:Nat):Int):=(by rw[IntKind.wrap_i64];have:=HN4.out;omega);have HP3:Hid (P3=(aN (L.take (i+1))).length):=hid (by rw[zX HXX.out.1];have:=HXX.out;omega);clear Yz;have uY:(decide ((pk:Int) > 0)=false/\decide ((0:Int)<(pk:Int))=false/\decide (0<pk)=false)\/((decide ((pk:Int) > 0)=true/\decide ((0:Int)<(pk:Int))=true/\decide (0<pk)=true)/\((wy:Int)==0)=false)\/((decide ((pk:Int) > 0)=true/\decide ((0:Int)<(pk:Int))=true/\decide (0<pk)=true)/\((wy:Int)==0)=true/\((i:Int)==(rm:Int))=false):=by
        by_cases e1:0<pk
        ·by_cases e2:wy=0
         ·exact .inr (.inr ⟨⟨by simp;omega,by simp;omega,by simp;omega⟩,by simp;omega,by simp;omega⟩)
         ·exact .inr (.inl ⟨⟨by simp;omega,by simp;omega,by simp;omega⟩,by simp;omega⟩)
        ·exact .inl ⟨by simp;omega,by simp;omega,by simp;omega⟩
       clear tQ;rcases uY with⟨d1,Sq,d1n⟩ | ⟨⟨d1,Sq,d1n⟩,d2⟩ | ⟨⟨d1,Sq,d1n⟩,d2,d3⟩
       all_goals
        go_wp2_with fail;go_roundg (gk-1)
        case measure=>have:=HXX.out;omega
        case rel=>exact⟨i+1,by rw[<-HP3.out],by go_num,by have:=HXX.out;omega,by have:=HXX.out;omega,HKR⟩
     ·have nM:decide (i<n4)=false:=(by simp;omega);have HA:=gQ wr (HX.out.kept HKW.out (λf=>f)) (HT.out.kept HKW.out (λf=>f));go_wp2_with fail;refine HA.mono ?_;rintro e w7 ⟨rfl,dk⟩;have HK7:Hid (Same W w7):=hid (Same.trans HKW.out dk);clear dk HA;go_wp2_with fail;go_ret;exact⟨rfl,HK7.out⟩
  ·have HWr:=qJ w1 a len cap E (HS.out.kept HK1.out (λ_ _ f=>f)) (by omega) HC.out (HX.out.kept HK1.out (λf=>f)) hck;obtain⟨x,hx⟩:∃x,x=fT E len:=⟨_,rfl⟩
   rw[<-hx]at HWr hck;have YO:((x:Int) != 0)=true:=(by simp;omega);clear hx hck;go_wp2_with fail;refine HWr.mono ?_;rintro e w2 ⟨rfl,hk2⟩;have HK2:Hid (Same W w2):=hid (Same.trans HK1.out hk2);have HA:=gQ w2 (HX.out.kept HK2.out (λf=>f)) (HT.out.kept HK2.out (λf=>f));clear hk2 HWr;go_wp2_with fail;refine HA.mono ?_;rintro e w3 ⟨rfl,hk3⟩;have HK3:Hid (Same W w3):=hid (Same.trans HK2.out hk3);clear hk3 HA;go_wp2_with fail;go_ret;exact⟨rfl,HK3.out⟩
theorem tU(a:Option Addr)(len cap:Nat)(E:Nat→En)(z v:Int)(W:World)(he:Ents W (fun _=>True) a len E)(hc:len≤cap)(hr:len≤reachBytes)(hz:∀j,j<len→(E j).n.size≤reachBytes∧(E j).d.size≤reachBytes)(w1:(Lit.int .i64 z).wf=true)(w2:(Lit.int .u8 v).wf=true)(hT:Tab W)(hx:Mxl W):
  Calls Tryz.prog 3 #[.slice a len cap,.int .i64 z,.int .u8 v] W λe w'=>e=.returned (.bool true)/\Below W.heap.size W w':=by
 have h1:-9223372036854775808<=z/\z<=9223372036854775807:=by simp[Lit.wf,IntKind.min,IntKind.max,IntKind.signed,IntKind.bits]at w1;exact w1
 have h2:0<=v/\v<=255:=by simp[Lit.wf,IntKind.min,IntKind.max,IntKind.signed,IntKind.bits]at w2;omega
 obtain⟨V,rfl⟩:∃V:Nat,v=(V:Int):=⟨v.toNat,by omega⟩
 exact(Aj a len cap E z V W he hc hr hz h1 (by omega) hT hx).mono (λ_ _ h=>⟨h.1,h.2.bel⟩)
end Go.Proofs.YtkhagfgineifhaaGreatDoor
