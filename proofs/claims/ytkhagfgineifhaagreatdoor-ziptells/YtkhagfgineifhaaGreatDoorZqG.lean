import Derived.Test.YtkhagfgineifhaaGreatDoorZqF
import Derived.Test.YtkhagfgineifhaaGreatDoorZpU
namespace Go.Proofs.YtkhagfgineifhaaGreatDoor
open Go.RowKit
structure ItAt(N:Nat)(w:World)(x:Itv)(y:It):Prop where
 lab:x.m=y.lab
 src:Src w (λk=>k<N) (.slice x.a x.n x.c) y.bytes
 len:x.n=y.bytes.length
 byte:∀b∈y.bytes,b<256
 nam:∀b∈y.lab.name,b<256
 ok:gN y.lab
 pk:y.bytes.length=y.lab.packed
 ck:∃a,dj y.lab a=0
 adr:x.a≠none
def Its(N:Nat)(w:World)(xs:List Itv)(L:List It):Prop:=xs.length=L.length/\∀(j:Nat) (x:Itv) (y:It),xs[j]? = some x->L[j]? = some y->ItAt N w x y
theorem Its.nil(N:Nat)(w:World):Its N w [] []:=⟨rfl,λj x y h=>(by simp at h)⟩
theorem ItAt.kept{F:Nat->Prop}{N:Nat}{w w':World}{x:Itv}{y:It}(h:ItAt N w x y)(hk:Kept F w w')(hF:∀k,k<N->¬F k):ItAt N w' x y:=
 ⟨h.lab,h.src.kept hk (λk hk _=>hF k hk),h.len,h.byte,h.nam,h.ok,h.pk,h.ck,h.adr⟩
theorem Its.kept{F:Nat->Prop}{N:Nat}{w w':World}{xs:List Itv}{L:List It}(h:Its N w xs L)(hk:Kept F w w')(hF:∀k,k<N->¬F k):Its N w' xs L:=
 ⟨h.1,λj x y h1 h2=>(h.2 j x y h1 h2).kept hk hF⟩
theorem Its.snoc{N:Nat}{w:World}{xs:List Itv}{L:List It}(h:Its N w xs L){x:Itv}{y:It}(hx:ItAt N w x y):Its N w (xs++[x]) (L++[y]):=by
 refine⟨by simp[h.1],λj x' y' h1 h2=>?_⟩;by_cases hj:j<xs.length
 ·rw[List.getElem?_append_left hj]at h1;rw[List.getElem?_append_left (by rw[<-h.1];exact hj)]at h2;exact h.2 j x' y' h1 h2
 ·rw[List.getElem?_append_right (by omega)]at h1;rw[List.getElem?_append_right (by rw[<-h.1];omega),<-h.1]at h2;have e:j-xs.length=0:=by
   rcases Nat.eq_zero_or_pos (j-xs.length)with e | e
   ·exact e
   ·rw[List.getElem?_eq_none (by simp;omega)]at h1;cases h1
  rw[e]at h1 h2;simp only[List.getElem?_cons_zero,Option.some.injEq]at h1 h2;subst h1;subst h2;exact hx
theorem Its.names{N:Nat}{w:World}{xs:List Itv}{L:List It}(h:Its N w xs L):jK (λj=>(xs.getD j default).m) xs.length=bM L:=by
 unfold jK bM;refine List.ext_getElem (by simp[h.1]) (λj h1 h2=>?_);simp only[List.length_map,List.length_range]at h1 h2;simp only[List.getElem_map,List.getElem_range];have e:xs.getD j default=xs[j]:=by rw[List.getD_eq_getElem?_getD,List.getElem?_eq_getElem h1];rfl
 rw[e,(h.2 j _ _ (List.getElem?_eq_getElem h1) (List.getElem?_eq_getElem h2)).lab]
theorem Its.nam{N:Nat}{w:World}{xs:List Itv}{L:List It}(h:Its N w xs L):∀i,i<xs.length->∀b∈(xs.getD i default).m.name,b<256:=by
 intro j hj;have h2:j<L.length:=by rw[<-h.1];exact hj
 have e:xs.getD j default=xs[j]:=by rw[List.getD_eq_getElem?_getD,List.getElem?_eq_getElem hj];rfl
 have hi:=h.2 j _ _ (List.getElem?_eq_getElem hj) (List.getElem?_eq_getElem h2);rw[e,hi.lab];exact hi.nam
def OpnA(w w':World)(o:Except Nat (List It))(e:Ending):Prop:=
 (∀k,o=.error k->e=aG k)/\(∀L,o=.ok L->∃a n c xs,e=.returned (.slice a n c)/\RowC w.heap.size 60 6 mu w' (.slice a n c) xs/\Its w.heap.size w' xs L/\n=xs.length/\n<=c/\n<=64)/\Same w w'
theorem OpnA.bad{w w':World}{o:Except Nat (List It)}{e:Ending}{k:Nat}(h:o=.error k)(he:e=aG k)(hk:Same w w'):OpnA w w' o e:=
 ⟨λk' h'=>by rw[h]at h';simp only[Except.error.injEq]at h';subst h';exact he,λL h'=>(by rw[h]at h';cases h'),hk⟩
theorem OpnA.good{w w':World}{o:Except Nat (List It)}{e:Ending}{L:List It}(h:o=.ok L){a:Option Addr}{n c:Nat}{xs:List Itv}(he:e=.returned (.slice a n c))(hr:RowC w.heap.size 60 6 mu w' (.slice a n c) xs)(hi:Its w.heap.size w' xs L)(hn:n=xs.length)(hc:n<=c)(ET:n<=64)(hk:Same w w'):OpnA w w' o e:=
 ⟨λk' h'=>(by rw[h]at h';cases h'),λL' h'=>by rw[h]at h';simp only[Except.ok.injEq]at h';subst h';exact⟨a,n,c,xs,he,hr,hi,hn,hc,ET⟩,hk⟩
theorem Gi{m:Mk}{r b y:List Nat}(h:kq m r=some (b,y)):y.length<=r.length/\b.length=m.packed:=by
 unfold kq at h;rw[Js]at h;split at h
 ·rw[ak]at h;obtain⟨h1,h2,h3⟩:=xB h;rw[h2,h3,List.length_drop,List.length_take,List.length_drop];rw[List.length_drop]at h1;omega
 ·rw[bG]at h;cases h
theorem GZ{fs n:Nat}{P R:List Nat}{l:List It}(h:ii R=none):fU fs (n+1) P R l=.error 81:=by rw[fU,h]
theorem Ht{fs n:Nat}{P R R':List Nat}{l:List It}{m:Mk}{at':Nat}(h:ii R=some ((m,at'),R'))(hc:dj m (bM l)≠0):fU fs (n+1) P R l=.error (dj m (bM l)):=by rw[fU,h];simp only;rw[if_pos hc]
theorem JC{fs n:Nat}{P R R':List Nat}{l:List It}{m:Mk}{at':Nat}(h:ii R=some ((m,at'),R'))(hc:dj m (bM l)=0)(ha:at'≠fs-P.length):fU fs (n+1) P R l=.error 81:=by rw[fU,h];simp only;rw[if_neg (by omega),if_pos ha]
theorem FY{fs n:Nat}{P R R':List Nat}{l:List It}{m:Mk}{at':Nat}(h:ii R=some ((m,at'),R'))(hc:dj m (bM l)=0)(ha:at'=fs-P.length)(hp:kq m P=none):fU fs (n+1) P R l=.error 81:=by rw[fU,h];simp only;rw[if_neg (by omega),if_neg (by omega),hp]
theorem C5{fs n:Nat}{P R R':List Nat}{l:List It}{m:Mk}{at':Nat}(h:ii R=some ((m,at'),R'))(hc:dj m (bM l)=0)(ha:at'=fs-P.length){b P':List Nat}(hp:kq m P=some (b,P')):fU fs (n+1) P R l=fU fs n P' R' (l++[⟨m,b⟩]):=by rw[fU,h];simp only;rw[if_neg (by omega),if_neg (by omega),hp]
theorem RowC.off{α:Type}{B t k:Nat}{enc:α->List Value}{w:World}{v:Value}{xs:List α}(h:RowC B t k enc w v xs){g:Nat}{cs:Array Value}{t':Nat}(hb:Blk w g cs t')(ht:t'≠t):v.ownBlock≠some g:=by
 intro e;rcases h.2 with⟨rfl,_⟩ | ⟨g',cap,cur,rfl,_,hg,_⟩
 ·cases e
 ·simp only[Value.ownBlock,Option.some.injEq]at e;subst e;unfold Blk at hb;rw[hb]at hg;simp only[Option.some.injEq,Obj.cells.injEq]at hg;exact ht hg.2.1
structure Qh(w wr:World)(fs:Nat)(o:Except Nat (List It))(left:Nat)(pb rb:Nat)(i:Nat)(v:Value)(xs:List Itv)(L:List It)(P R:List Nat)(ap ar:Option Addr)(cp cr:Nat):Prop where
 row:RowC w.heap.size 60 6 mu wr v xs
 its:Its w.heap.size wr xs L
 len:L.length=i
 pie:Cur w.heap.size wr pb P ap cp
 recs:Cur w.heap.size wr rb R ar cr
 same:Same w wr
 eq:o=fU fs left P R L
 two:pb≠rb
 fit:P.length<=fs
end Go.Proofs.YtkhagfgineifhaaGreatDoor
