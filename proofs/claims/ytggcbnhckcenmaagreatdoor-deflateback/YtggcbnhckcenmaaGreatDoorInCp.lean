import Derived.Test.YtggcbnhckcenmaaGreatDoorInSt
namespace Go.Proofs.YtggcbnhckcenmaaGreatDoor
open Go.RowKit

theorem RX.drew{w:World}{I G:Nat→Prop}{h:Nat}{v:Value}{ls:List Nat}{most:Nat}{s:S5}(r:RX w I G h v ls most s):RX w.drew I G h v ls most s:=by
 obtain⟨c,vo,r⟩:=r
 exact⟨c,vo,r.blk,r.row,r.ne,r.gh,r.go,r.lt,r.src,r.ig,r.pl,r.le,r.ol,r.by'⟩

theorem cp5_zero(most far:Nat)(s:S5):cp5 most far 0 s=s:=rfl
theorem cp5_stuck(most far k:Nat)(s:S5)(h:s.e≠0):cp5 most far k s=s:=by
 cases k with
 | zero=>rfl
 | succ k=>simp only[cp5];rw[if_pos h]
theorem cp5_go(most far k:Nat)(s:S5)(h:s.e=0):cp5 most far (k+1) s=cp5 most far k (ly most s (s.out.getD (s.out.length-far) 0)):=by
 simp only[cp5];rw[if_neg (by simp[h])]

theorem ly_out(most:Nat)(s:S5)(b:Nat):s.out.length≤(ly most s b).out.length:=by
 unfold ly
 split
 ·exact Nat.le_refl _
 ·split
  ·exact Nat.le_refl _
  ·simp

theorem lbase_le(y:Nat)(hy:257≤y)(hy2:y≤285):lbase y≤3+32*(y-257):=by
 induction y with
 | zero=>omega
 | succ y ih=>
  by_cases h:257≤y
  ·rw[lbase_succ y h]
   have h1:=ih h (by omega)
   have h2:2 ^ xlen y≤32:=Nat.le_trans (Nat.pow_le_pow_right (by omega) (xlen_le y (by omega))) (by decide)
   omega
  ·have e:y=256:=by omega
   subst e
   decide
theorem dbase_le(y:Nat)(hy2:y≤29):1≤dbase y∧dbase y≤1+8192*y:=by
 induction y with
 | zero=>decide
 | succ y ih=>
  rw[dbase_succ y]
  have h0:=Nat.two_pow_pos (xdist y)
  have h1:=ih (by omega)
  have h2:2 ^ xdist y≤8192:=Nat.le_trans (Nat.pow_le_pow_right (by omega) (xdist_le y (by omega))) (by decide)
  omega

theorem len5_le(ls:List Nat)(hb:∀b∈ls,b<2)(s:S5)(y:Nat)(hy:257≤y)(hy2:y≤285):(len5 ls s y).1≤2000:=by
 unfold len5
 split
 ·simp only;omega
 ·have h1:=tk_lt ls hb s (xlen y)
  have h2:2 ^ xlen y≤32:=Nat.le_trans (Nat.pow_le_pow_right (by omega) (xlen_le y (by omega))) (by decide)
  have h3:=lbase_le y hy hy2
  simp only
  omega
theorem dist5_le(ls:List Nat)(hb:∀b∈ls,b<2)(s:S5)(y:Nat)(hy2:y≤29):1≤(dist5 ls s y).1∧(dist5 ls s y).1≤1000000:=by
 unfold dist5
 have h1:=tk_lt ls hb s (xdist y)
 have h2:2 ^ xdist y≤8192:=Nat.le_trans (Nat.pow_le_pow_right (by omega) (xdist_le y (by omega))) (by decide)
 have h3:=dbase_le y hy2
 simp only
 omega

theorem RX.outs{w:World}{I G:Nat→Prop}{h:Nat}{v:Value}{ls:List Nat}{most:Nat}{s:S5}(r:RX w I G h v ls most s):s.out.length≤most∧∃ao cap,w.cell? ⟨h,2,none⟩=some (.slice ao s.out.length cap)∧s.out.length≤cap∧(s.out≠[]→∃g,ao=some ⟨g,0,none⟩∧∀j (hj:j<s.out.length),w.cell? ⟨g,j,none⟩=some (.int .u8 (s.out[j]:Nat))∧s.out[j]<256):=by
 obtain⟨c,vo,r⟩:=r
 obtain⟨ao,cap,hv,hn,_,hcap,_⟩:=RowE.shape (enc:=byteV) (xs:=s.out) r.row
 subst hv
 have c2:=r.blk.cell 2
 simp at c2
 refine⟨r.ol,ao,cap,c2,hcap,fun hne=>?_⟩
 obtain⟨g,rfl⟩:=hn hne
 exact⟨g,rfl,fun j hj=>⟨Row.cell r.row j hj,r.by' _ (List.getElem_mem hj)⟩⟩

theorem copies5_far(ls:List Nat)(most:Nat)(dist:List Nat)(s:S5)(y:Nat)(h:y≤285)(n:Nat)(s1 s2 s3 s4:S5)(d:Nat)(e1:len5 ls s y=(n,s1))(e2:s2=if s1.e=0∧usedB dist=false then {s1 with e:=53} else s1)(e3:sy dist ls s2 53=(d,s3))(e4:s4=if s3.e=0∧29<d then {s3 with e:=53} else s3):
  copies5 ls most dist s y=if s4.e≠0 then s4 else cp5 most (dist5 ls s4 d).1 n (if (dist5 ls s4 d).2.e=0∧(dist5 ls s4 d).2.out.length<(dist5 ls s4 d).1 then {(dist5 ls s4 d).2 with e:=54} else(dist5 ls s4 d).2):=by
 unfold copies5
 rw[if_neg (by omega)]
 simp only
 rw[e1]
 simp only
 rw[←e2,e3]
 simp only
 rw[←e4]

end Go.Proofs.YtggcbnhckcenmaaGreatDoor
