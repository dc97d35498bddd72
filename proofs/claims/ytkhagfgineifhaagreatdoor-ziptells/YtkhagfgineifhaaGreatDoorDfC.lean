import Derived.Test.YtkhagfgineifhaaGreatDoorDfB
set_option maxHeartbeats 1000000
namespace Go.Proofs.YtkhagfgineifhaaGreatDoor
open Go.RowKit
structure NW(wb w:World)(p:Nat)(s:Value)(X:List Nat):Prop where
 wr:Wr w p s (n2 X) X.length
 bit:∀b∈X,b<2
 same:Same wb w
 own:∀k,Fp p s k->wb.heap.size<=k
theorem NW.put(wb w:World)(p:Nat)(s:Value)(X:List Nat)(v n:Nat)(h:NW wb w p s X)(hn:n≤32)(hv:v<2 ^ n)(hc:X.length≤1000000000):
  Calls Tryz.prog 89 #[.pointer (some ⟨p,0,none⟩),.int .u32 (v:Nat),.int .i64 (n:Nat)] w λe w'=>e=.returned (.int .i64 0)/\Same wb w'/\Kept (Fp p s) w w'/\∃s',NW wb w' p s' (X++aj v n):=by
 refine(jm w w p s s X v n (WS.start h.wr h.bit) hn hv hc).mono ?_;rintro e w' ⟨rfl,⟨s',hs⟩,hk⟩;have gp:Same wb w':=Same.then h.same hk (λk hk9 f=>by have:=h.own k f;omega);refine⟨rfl,gp,hk,s',hs.wr,hs.bit,gp,λk f=>?_⟩;rcases f with e | e
 ·rw[e];exact h.own p (.inl rfl)
 ·rcases hs.own k e with h9 | h9
  ·exact h.own k (.inr h9)
  ·exact Nat.le_trans h.same.size h9
theorem NW.same'{wb w w':World}{p:Nat}{s:Value}{X:List Nat}(h:NW wb w p s X)(hk:Same w w'):NW wb w' p s X:=
 ⟨h.wr.kept hk (λ_ _ f=>f),h.bit,Same.trans h.same hk,h.own⟩
theorem oe(w:World)(k:Nat)(hk:k<4):Calls Tryz.prog 87 #[.int .u32 (k:Nat)] w λe w'=>∃p s,e=.returned (.pointer (some ⟨p,0,none⟩))/\NW w w' p s ([1]++aj k 2):=by
 have HN:=rR w;go_enter Tryz.func87,Tryz.ntmps87;go_wp2_with fail;refine HN.mono ?_;rintro e w1 ⟨rfl,hw1,hk1,_⟩;have hnw:NW w w1 w.heap.size (.slice none 0 0) []:=⟨by simpa[n2]using hw1,by simp,hk1,λk f=>by
  rcases f with e | e
  ·omega
  ·cases e⟩
 have H1:=hnw.put w w1 _ _ [] 1 1 (by decide) (by decide) (by simp);clear hw1 hk1 hnw HN;go_wp2_with fail;refine H1.mono ?_;rintro e w2 ⟨rfl,_,_,s2,hs2⟩;have H2:=hs2.put w w2 _ _ _ k 2 (by decide) (by omega) (by simp[aj]);clear hs2 H1;go_wp2_with fail;refine H2.mono ?_;rintro e w3 ⟨rfl,_,_,s3,hs3⟩;have HS:Hid (NW w w3 w.heap.size s3 ([]++aj 1 1++aj k 2)):=hs3;clear hs3 H2;go_wp2_with fail;go_ret;exact⟨_,s3,rfl,HS.out⟩
end Go.Proofs.YtkhagfgineifhaaGreatDoor
