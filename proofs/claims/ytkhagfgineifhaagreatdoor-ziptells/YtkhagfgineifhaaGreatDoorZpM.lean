import Derived.Test.YtkhagfgineifhaaGreatDoorCrc
namespace Go.Proofs.YtkhagfgineifhaaGreatDoor
structure Mk where
 way:Nat
 sum:Nat
 packed:Nat
 size:Nat
 name:List Nat
deriving DecidableEq
def fi(n:Nat)(r:List Nat):Option (List Nat×List Nat):=if n<=r.length then some (r.take n,r.drop n)else none
def dY(n:Nat)(r:List Nat):Option (Nat×List Nat):=match fi n r with
 | none=>none
 | some p=>some (aO p.1,p.2)
def eX(n v:Nat)(r:List Nat):Option (List Nat):=match dY n r with
 | none=>none
 | some p=>if p.1=v then some p.2 else none
def dh{α β:Type}(o:Option α)(f:α->Option β):Option β:=match o with
 | none=>none
 | some x=>f x
theorem aA{α β:Type}{o:Option α}{f:α->Option β}{x:α}(h:o=some x):dh o f=f x:=by rw[h];rfl
theorem td{α β:Type}{o:Option α}{f:α->Option β}(h:o=none):dh o f=none:=by rw[h];rfl
def fH(r:List Nat):Option ((Mk×Nat)×List Nat):=
 dh (fi 2 r) λa=>dh (eX 2 0 a.2) λr=>dh (dY 2 r) λway=>dh (fi 4 way.2) λa=>
 dh (dY 4 a.2) λsum=>dh (dY 4 sum.2) λpacked=>dh (dY 4 packed.2) λsize=>dh (dY 2 size.2) λlong=>
 dh (eX 2 0 long.2) λr=>some ((⟨way.1,sum.1,packed.1,size.1,[]⟩,long.1),r)
def Mk.named(m:Mk)(s:List Nat):Mk:=⟨m.way,m.sum,m.packed,m.size,s⟩
def ii(r:List Nat):Option ((Mk×Nat)×List Nat):=
 dh (eX 4 33639248 r) λr=>dh (fi 2 r) λa=>dh (fH a.2) λl=>dh (eX 2 0 l.2) λr=>dh (eX 2 0 r) λr=>
 dh (fi 6 r) λa=>dh (dY 4 a.2) λat'=>dh (fi l.1.2 at'.2) λs=>some ((l.1.1.named s.1,at'.1),s.2)
def o0(m:Mk)(r:List Nat):Option (List Nat):=
 dh (eX 4 67324752 r) λr=>dh (fH r) λl=>dh (fi l.1.2 l.2) λs=>if l.1.1.named s.1=m then some s.2 else none
def kq(m:Mk)(r:List Nat):Option (List Nat×List Nat):=dh (o0 m r) λr=>fi m.packed r
def im(m:Mk):List Nat:=aR 20 2++(aR 0 2++(aR m.way 2++(aR 0 2++(aR 33 2++(aR m.sum 4++(aR m.packed 4++(aR m.size 4++(aR m.name.length 2++aR 0 2))))))))
def ig(m:Mk):List Nat:=aR 67324752 4++(im m++m.name)
def k9(m:Mk)(at':Nat):List Nat:=aR 33639248 4++(aR 20 2++(im m++(aR 0 2++(aR 0 2++(aR 0 2++(aR 0 4++(aR at' 4++m.name)))))))
def eO(n long first:Nat):List Nat:=aR 101010256 4++(aR 0 2++(aR 0 2++(aR n 2++(aR n 2++(aR long 4++(aR first 4++aR 0 2))))))
structure gN(m:Mk):Prop where
 way:m.way<65536
 sum:m.sum<4294967296
 packed:m.packed<4294967296
 size:m.size<4294967296
 name:m.name.length<65536
theorem ir(a r:List Nat){n:Nat}(h:a.length=n):fi n (a++r)=some (a,r):=by subst h;unfold fi;rw[if_pos (by simp),List.take_left,List.drop_left]
theorem fC(v n:Nat)(r:List Nat)(h:v<256 ^ n):dY n (aR v n++r)=some (v,r):=by unfold dY;rw[ir _ _ (az v n)];simp only;rw[Ez,Nat.mod_eq_of_lt h]
theorem eB(v n:Nat)(r:List Nat)(h:v<256 ^ n):eX n v (aR v n++r)=some r:=by unfold eX;rw[fC v n r h];simp
theorem xq(m:Mk)(h:gN m)(r:List Nat):fH (im m++r)=some ((m.named [],m.name.length),r):=by unfold fH im;simp only[List.append_assoc];rw[aA (ir _ _ (az 20 2))];simp only;rw[aA (eB 0 2 _ (by decide)),aA (fC m.way 2 _ h.way)];simp only;rw[show aR 0 2++(aR 33 2++(aR m.sum 4++(aR m.packed 4++(aR m.size 4++(aR m.name.length 2++(aR 0 2++r))))))=(aR 0 2++aR 33 2)++(aR m.sum 4++(aR m.packed 4++(aR m.size 4++(aR m.name.length 2++(aR 0 2++r)))))by simp];rw[aA (ir _ _ (by simp[az]))];simp only;rw[aA (fC m.sum 4 _ h.sum)];simp only;rw[aA (fC m.packed 4 _ h.packed)];simp only;rw[aA (fC m.size 4 _ h.size)];simp only;rw[aA (fC m.name.length 2 _ h.name)];simp only;rw[aA (eB 0 2 _ (by decide))];rfl
theorem Mk.named_self(m:Mk):(m.named []).named m.name=m:=rfl
theorem FK(m:Mk)(h:gN m)(at':Nat)(ha:at'<4294967296)(r:List Nat):ii (k9 m at'++r)=some ((m,at'),r):=by unfold ii k9;simp only[List.append_assoc];rw[aA (eB 33639248 4 _ (by decide)),aA (ir _ _ (az 20 2))];simp only;rw[aA (xq m h _)];simp only;rw[aA (eB 0 2 _ (by decide)),aA (eB 0 2 _ (by decide))];rw[show aR 0 2++(aR 0 4++(aR at' 4++(m.name++r)))=(aR 0 2++aR 0 4)++(aR at' 4++(m.name++r))by simp];rw[aA (ir _ _ (by simp[az]))];simp only;rw[aA (fC at' 4 _ ha)];simp only;rw[aA (ir _ _ rfl)];rfl
theorem FO(m:Mk)(h:gN m)(r:List Nat):o0 m (ig m++r)=some r:=by unfold o0 ig;simp only[List.append_assoc];rw[aA (eB 67324752 4 _ (by decide)),aA (xq m h _)];simp only;rw[aA (ir _ _ rfl)];simp only;rw[Mk.named_self,if_pos rfl]
theorem FZ(m:Mk)(h:gN m)(b r:List Nat)(hb:b.length=m.packed):kq m (ig m++(b++r))=some (b,r):=by unfold kq;rw[aA (FO m h _),ir _ _ hb]
theorem oI(m:Mk):(im m).length=26:=by simp[im,az]
theorem oU(m:Mk):(ig m).length=30+m.name.length:=by simp[ig,oI,az];omega
theorem yn(m:Mk)(a:Nat):(k9 m a).length=46+m.name.length:=by simp[k9,oI,az];omega
theorem vG(n l f:Nat):(eO n l f).length=22:=by simp[eO,az]
theorem Ku{β:Type}(n o:Nat)(r:List Nat)(hn:0<n)(f:List Nat×List Nat->Option β):dh (fi n (r.drop o)) f=if o+n<=r.length then f ((r.drop o).take n,r.drop (o+n))else none:=by
 unfold fi;rw[List.length_drop,List.drop_drop];by_cases h:o+n<=r.length
 ·rw[if_pos (by omega),if_pos h];rfl
 ·rw[if_neg (by omega),if_neg h];rfl
theorem Kz{β:Type}(n o:Nat)(r:List Nat)(hn:0<n)(f:Nat×List Nat->Option β):dh (dY n (r.drop o)) f=if o+n<=r.length then f (eG r o n,r.drop (o+n))else none:=by
 unfold dY fi;rw[List.length_drop,List.drop_drop];by_cases h:o+n<=r.length
 ·rw[if_pos (by omega),if_pos h];rfl
 ·rw[if_neg (by omega),if_neg h];rfl
theorem BT{β:Type}(n v o:Nat)(r:List Nat)(hn:0<n)(f:List Nat->Option β):dh (eX n v (r.drop o)) f=if o+n<=r.length then(if eG r o n=v then f (r.drop (o+n))else none)else none:=by
 unfold eX dY fi;rw[List.length_drop,List.drop_drop];by_cases h:o+n<=r.length
 ·rw[if_pos (by omega),if_pos h];simp only;by_cases h2:eG r o n=v
  ·rw[if_pos h2,if_pos (by exact h2)];rfl
  ·rw[if_neg h2,if_neg (by exact h2)];rfl
 ·rw[if_neg (by omega),if_neg h];rfl
def Ks(r:List Nat)(o:Nat):Mk:=⟨eG r (o+4) 2,eG r (o+10) 4,eG r (o+14) 4,eG r (o+18) 4,[]⟩
theorem J9{β:Type}(r:List Nat)(o:Nat)(f:(Mk×Nat)×List Nat->Option β):dh (fH (r.drop o)) f=if o+26<=r.length/\eG r (o+2) 2=0/\eG r (o+24) 2=0 then f ((Ks r o,eG r (o+22) 2),r.drop (o+26))else none:=by
 unfold fH;simp only[Ku,Kz,BT,Nat.add_assoc,Nat.reduceAdd,show(0:Nat)<2 by decide,show(0:Nat)<4 by decide];by_cases TX:o+26<=r.length
 ·rw[if_pos (by omega),if_pos (by omega)];by_cases h1:eG r (o+2) 2=0
  ·rw[if_pos h1,if_pos (by omega),if_pos (by omega),if_pos (by omega),if_pos (by omega),if_pos (by omega),if_pos (by omega),if_pos (by omega)];by_cases h2:eG r (o+24) 2=0
   ·rw[if_pos h2,if_pos ⟨TX,h1,h2⟩];rfl
   ·rw[if_neg h2,if_neg (λh=>h2 h.2.2)];rfl
  ·rw[if_neg h1,if_neg (λh=>h1 h.2.1)];rfl
 ·conv=>rhs;rw[if_neg (λh=>TX h.1)]
  repeat' split
  all_goals first | rfl | omega
theorem Js(m:Mk)(r:List Nat):o0 m r=if 30<=r.length/\eG r 0 4=67324752/\eG r 6 2=0/\eG r 28 2=0/\30+eG r 26 2<=r.length/\(Ks r 4).named ((r.drop 30).take (eG r 26 2))=m then some (r.drop (30+eG r 26 2))else none:=by
 have h0:r=r.drop 0:=rfl;unfold o0;conv=>lhs;rw[h0]
 simp only[BT,J9,Nat.zero_add,Nat.reduceAdd,show(0:Nat)<4 by decide];by_cases TL:30<=r.length
 ·by_cases h1:eG r 0 4=67324752
  ·by_cases h2:eG r 6 2=0
   ·by_cases h3:eG r 28 2=0
    ·rw[if_pos (by omega),if_pos h1,if_pos ⟨by omega,h2,h3⟩];unfold fi;rw[List.length_drop,List.drop_drop];by_cases h6:30+eG r 26 2<=r.length
     ·rw[if_pos (by omega)];show(if (Ks r 4).named ((r.drop 30).take (eG r 26 2))=m then some (r.drop (30+eG r 26 2))else none)=_;by_cases h7:(Ks r 4).named ((r.drop 30).take (eG r 26 2))=m
      ·rw[if_pos h7,if_pos ⟨TL,h1,h2,h3,h6,h7⟩]
      ·rw[if_neg h7,if_neg (λh=>h7 h.2.2.2.2.2)]
     ·rw[if_neg (by omega),if_neg (λh=>h6 h.2.2.2.2.1)];rfl
    ·conv=>rhs;rw[if_neg (λh=>h3 h.2.2.2.1)]
     repeat' split
     all_goals first | rfl | omega | (exfalso;exact h3 (And.right (And.right (by assumption))))
   ·conv=>rhs;rw[if_neg (λh=>h2 h.2.2.1)]
    repeat' split
    all_goals first | rfl | omega | (exfalso;exact h2 (And.left (And.right (by assumption))))
  ·conv=>rhs;rw[if_neg (λh=>h1 h.2.1)]
   repeat' split
   all_goals first | rfl | omega | (exfalso;exact h1 (by assumption))
 ·conv=>rhs;rw[if_neg (λh=>TL h.1)]
  repeat' split
  all_goals first | rfl | omega
end Go.Proofs.YtkhagfgineifhaaGreatDoor
