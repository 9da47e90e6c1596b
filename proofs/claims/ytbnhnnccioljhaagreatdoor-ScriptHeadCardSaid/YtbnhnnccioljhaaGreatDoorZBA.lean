/-
  The program's Same of setups. (Made by gen_spsame.py.)
  How great parsed setups are; a setup is the same as itself. No program.
-/
import Derived.Test.YtbnhnnccioljhaaGreatDoorZAX
import Derived.Test.YtbnhnnccioljhaaGreatDoorZAZ
import Derived.Test.YtbnhnnccioljhaaGreatDoorZAS
import Derived.Test.YtbnhnnccioljhaaGreatDoorZAH
import Derived.Test.YtbnhnnccioljhaaGreatDoorZAl
set_option maxRecDepth 100000
set_option maxHeartbeats 25600000
namespace Go.Proofs.YtbnhnnccioljhaaGreatDoor
open Go.RowKit
theorem list_eq {α:Type} {A B:List α} (h:A.length=B.length) (he:∀j (h1:j < A.length) (h2:j < B.length),A[j]=B[j]):A=B:=List.ext_getElem h he
theorem neq_intv (x y:Int) (W:World):(binOp .neq 3 (.int .i64 x) (.int .i64 y)).run Tryz.prog W= .ok (.bool (!decide (x=y))) W:=by
 by_cases h:x=y
 ·subst h
  rw [decide_eq_true rfl]
  go_simp
 ·rw [decide_eq_false h]
  have q:(x == y)=false:=by simpa using h
  go_simp
theorem neq_lkv (x y:Lk) (W:World):(binOp .neq 100 (.agg (lkA x)) (.agg (lkA y))).run Tryz.prog W= .ok (.bool (!decide (x=y))) W:=by
 obtain⟨a,b,c,d,e⟩:=x
 obtain⟨a',b',c',d',e'⟩:=y
 by_cases h1:a=a'
 ·subst h1
  by_cases h2:b=b'
  ·subst h2
   by_cases h3:c=c'
   ·subst h3
    by_cases h4:d=d'
    ·subst h4
     by_cases h5:e=e'
     ·subst h5
      rw [decide_eq_true rfl]
      go_simp
     ·have e0:decide ((a,b,c,d,e)=((a,b,c,d,e'):Lk))=false:=by simp [h5]
      rw [e0]
      have q:(e == e')=false:=by simpa using h5
      go_simp
    ·have e0:decide ((a,b,c,d,e)=((a,b,c,d',e'):Lk))=false:=by simp [h4]
     rw [e0]
     have q:(d == d')=false:=by simpa using h4
     go_simp
   ·have e0:decide ((a,b,c,d,e)=((a,b,c',d',e'):Lk))=false:=by simp [h3]
    rw [e0]
    have q:(c == c')=false:=by simpa using h3
    go_simp
  ·have e0:decide ((a,b,c,d,e)=((a,b',c',d',e'):Lk))=false:=by simp [h2]
   rw [e0]
   have q:(b == b')=false:=by simpa using h2
   go_simp
 ·have e0:decide ((a,b,c,d,e)=((a',b',c',d',e'):Lk))=false:=by simp [h1]
  rw [e0]
  have q:(a == a')=false:=by simpa using h1
  go_simp
theorem equalint_any (ao1 ao2:Option Addr) (b1 o1 b2 o2 c1 c2:Nat) (A B:List Int) (w:World) (hA:IArg w ao1 b1 o1 A) (hB:IArg w ao2 b2 o2 B) (hm:A.length≤100000) (hm2:B.length≤100000):
  Calls Tryz.prog 70 #[.slice ao1 A.length c1, .slice ao2 B.length c2] w fun e w'=>e= .returned (.bool (decide (A=B)))∧Below w.heap.size w w':=by
 have HA:=xhd hA
 have HB:=xhd hB
 obtain⟨n,hn⟩:∃n,A.length=n:=⟨_,rfl⟩
 obtain⟨m,hm'⟩:∃m,B.length=m:=⟨_,rfl⟩
 have HN:=xhd hn
 have HM:=xhd hm'
 rw [hn] at hm ⊢
 rw [hm'] at hm2 ⊢
 clear hA hB hn hm'
 by_cases hnm:n=m
 ·subst hnm
  obtain⟨r,hr⟩:∃r,decide (A=B)=r:=⟨_,rfl⟩
  have HR:=xhd hr
  rw [hr]
  clear hr
  go_enter Tryz.func70,Tryz.ntmps70
  go_wp2
  go_loopw [13] (fun i' wr=>∃i:Nat,i≤n∧i'= .int .i64 i∧Hid (Below w.heap.size w wr)∧Hid (∀j (h1:j < A.length) (h2:j < B.length),j < i→A[j]=B[j])) (fun i' _=>n - (intOf i').toNat)
  case atStart=>exact⟨0,Nat.zero_le _,rfl,Below.refl _ w,fun j _ _ hj=>absurd hj (Nat.not_lt_zero _)⟩
  case round=>
   obtain⟨i,hi,rfl,HW,HO⟩:=hrel
   by_cases hlt:i < n
   ·have h1:i < A.length:=by rw [HN.out];exact hlt
    have h2:i < B.length:=by rw [HM.out];exact hlt
    have hA:=HA.out.below HW.out
    have hB:=HB.out.below HW.out
    obtain⟨rfl,hb1⟩:=hA.at_ (by omega)
    obtain⟨rfl,hb2⟩:=hB.at_ (by omega)
    have x0:=hA.cells i h1
    have y0:=hB.cells i h2
    have hne:=fun W=>neq_intv A[i] B[i] W
    obtain⟨q,hq⟩:∃q,decide (A[i]=B[i])=q:=⟨_,rfl⟩
    rw [hq] at hne
    have HQ:=xhd hq
    obtain⟨a,hx⟩:∃x,A[i]=x:=⟨_,rfl⟩
    obtain⟨b,hy⟩:∃x,B[i]=x:=⟨_,rfl⟩
    rw [hx] at x0
    rw [hy] at y0
    have hne2:(a == b)=q:=by
     rw [←hq,hx,hy,Bool.eq_iff_iff]
     simp
    clear hne
    clear hx hy hA hB hq
    cases q with
    |true=>
     have HO2:Hid (∀j (h1:j < A.length) (h2:j < B.length),j < i+1→A[j]=B[j]):=xhd (fun j k1 k2 hji=>by
      rcases Nat.lt_or_ge j i with h|h
      ·exact HO.out j k1 k2 h
      ·have:j=i:=by omega
       subst this
       exact of_decide_eq_true HQ.out)
     go_wp2_with fail
     go_quiet (fail)
     go_wp2
     go_roundw
     case rel=>exact⟨i+1,by omega,by go_num,xhd (below_drewN HW.out _),HO2⟩
     case measure=>simp [intOf];omega
    |false=>
     have HE:Hid (r=false):=xhd (HR.out.symm.trans (by
      simp only [decide_eq_false_iff_not]
      intro h
      have:∀(C:List Int) (h:A=C) (h2:i < C.length),A[i]=C[i]:=by rintro C rfl h2;rfl
      exact of_decide_eq_false HQ.out (this B h h2)))
     go_wp2_with fail
     go_quiet (fail)
     go_wp2
     go_ret
     exact⟨congrArg (fun x=>Ending.returned (.bool x)) HE.out.symm,below_drewN HW.out _⟩
   ·have HE:Hid (r=true):=xhd (HR.out.symm.trans (by
      simp only [decide_eq_true_eq]
      exact list_eq (HN.out.trans HM.out.symm) (fun j k1 k2=>HO.out j k1 k2 (by have:=HN.out;omega))))
    go_wp2
    go_ret
    exact⟨congrArg (fun x=>Ending.returned (.bool x)) HE.out.symm,HW.out⟩
 ·have e:decide (A=B)=false:=by
    simp only [decide_eq_false_iff_not]
    rintro rfl
    exact hnm (HN.out.symm.trans HM.out)
  rw [e]
  have hnb:((n:Int) == m)=false:=by simp;omega
  go_enter Tryz.func70,Tryz.ntmps70
  go_wp2
  go_ret
  exact⟨rfl,Below.refl _ w⟩
theorem equallock_any (ao1 ao2:Option Addr) (b1 o1 b2 o2 c1 c2:Nat) (A B:List Lk) (w:World) (hA:LArg w ao1 b1 o1 A) (hB:LArg w ao2 b2 o2 B) (hm:A.length≤100000) (hm2:B.length≤100000):
  Calls Tryz.prog 71 #[.slice ao1 A.length c1, .slice ao2 B.length c2] w fun e w'=>e= .returned (.bool (decide (A=B)))∧Below w.heap.size w w':=by
 have HA:=xhd hA
 have HB:=xhd hB
 obtain⟨n,hn⟩:∃n,A.length=n:=⟨_,rfl⟩
 obtain⟨m,hm'⟩:∃m,B.length=m:=⟨_,rfl⟩
 have HN:=xhd hn
 have HM:=xhd hm'
 rw [hn] at hm ⊢
 rw [hm'] at hm2 ⊢
 clear hA hB hn hm'
 by_cases hnm:n=m
 ·subst hnm
  obtain⟨r,hr⟩:∃r,decide (A=B)=r:=⟨_,rfl⟩
  have HR:=xhd hr
  rw [hr]
  clear hr
  go_enter Tryz.func71,Tryz.ntmps71
  go_wp2
  go_loopw [13] (fun i' wr=>∃i:Nat,i≤n∧i'= .int .i64 i∧Hid (Below w.heap.size w wr)∧Hid (∀j (h1:j < A.length) (h2:j < B.length),j < i→A[j]=B[j])) (fun i' _=>n - (intOf i').toNat)
  case atStart=>exact⟨0,Nat.zero_le _,rfl,Below.refl _ w,fun j _ _ hj=>absurd hj (Nat.not_lt_zero _)⟩
  case round=>
   obtain⟨i,hi,rfl,HW,HO⟩:=hrel
   by_cases hlt:i < n
   ·have h1:i < A.length:=by rw [HN.out];exact hlt
    have h2:i < B.length:=by rw [HM.out];exact hlt
    have hA:=HA.out.below HW.out
    have hB:=HB.out.below HW.out
    obtain⟨rfl,hb1⟩:=hA.at_ (by omega)
    obtain⟨rfl,hb2⟩:=hB.at_ (by omega)
    obtain⟨x0,x1,x2,x3,x4⟩:=hA.cells i h1
    obtain⟨y0,y1,y2,y3,y4⟩:=hB.cells i h2
    have hne:=fun W=>neq_lkv A[i] B[i] W
    obtain⟨q,hq⟩:∃q,decide (A[i]=B[i])=q:=⟨_,rfl⟩
    rw [hq] at hne
    have HQ:=xhd hq
    obtain⟨⟨ka,kb,kc,kd,ke⟩,hx⟩:∃x,A[i]=x:=⟨_,rfl⟩
    obtain⟨⟨la,lb,lc,ld,le⟩,hy⟩:∃x,B[i]=x:=⟨_,rfl⟩
    rw [hx] at x0 x1 x2 x3 x4 hne
    rw [hy] at y0 y1 y2 y3 y4 hne
    simp only at x0 x1 x2 x3 x4 y0 y1 y2 y3 y4 hne
    clear hx hy hA hB hq
    cases q with
    |true=>
     have HO2:Hid (∀j (h1:j < A.length) (h2:j < B.length),j < i+1→A[j]=B[j]):=xhd (fun j k1 k2 hji=>by
      rcases Nat.lt_or_ge j i with h|h
      ·exact HO.out j k1 k2 h
      ·have:j=i:=by omega
       subst this
       exact of_decide_eq_true HQ.out)
     go_wp2_with fail
     go_quiet (fail)
     go_wp2
     go_roundw
     case rel=>exact⟨i+1,by omega,by go_num,xhd (below_drewN HW.out _),HO2⟩
     case measure=>simp [intOf];omega
    |false=>
     have HE:Hid (r=false):=xhd (HR.out.symm.trans (by
      simp only [decide_eq_false_iff_not]
      intro h
      have:∀(C:List Lk) (h:A=C) (h2:i < C.length),A[i]=C[i]:=by rintro C rfl h2;rfl
      exact of_decide_eq_false HQ.out (this B h h2)))
     go_wp2_with fail
     go_quiet (fail)
     go_wp2
     go_ret
     exact⟨congrArg (fun x=>Ending.returned (.bool x)) HE.out.symm,below_drewN HW.out _⟩
   ·have HE:Hid (r=true):=xhd (HR.out.symm.trans (by
      simp only [decide_eq_true_eq]
      exact list_eq (HN.out.trans HM.out.symm) (fun j k1 k2=>HO.out j k1 k2 (by have:=HN.out;omega))))
    go_wp2
    go_ret
    exact⟨congrArg (fun x=>Ending.returned (.bool x)) HE.out.symm,HW.out⟩
 ·have e:decide (A=B)=false:=by
    simp only [decide_eq_false_iff_not]
    rintro rfl
    exact hnm (HN.out.symm.trans HM.out)
  rw [e]
  have hnb:((n:Int) == m)=false:=by simp;omega
  go_enter Tryz.func71,Tryz.ntmps71
  go_wp2
  go_ret
  exact⟨rfl,Below.refl _ w⟩
theorem equalprog_any (ao1 ao2:Option Addr) (b1 o1 b2 o2 c1 c2:Nat) (A B:List Prg) (w:World) (hA:GArg w ao1 b1 o1 A) (hB:GArg w ao2 b2 o2 B) (hm:A.length≤100000) (hm2:B.length≤100000) (hA2:∀x ∈ A,x.2.length≤100000) (hB2:∀x ∈ B,x.2.length≤100000):
  Calls Tryz.prog 72 #[.slice ao1 A.length c1, .slice ao2 B.length c2, .func (.func 73) #[] #[]] w fun e w'=>e= .returned (.bool (decide (A=B)))∧Below w.heap.size w w':=by
 have HA:=xhd hA
 have HB:=xhd hB
 have HA2:=xhd hA2
 have HB2:=xhd hB2
 have HSM:=xhd (fun (p q:Prg) (a1 a2:Option Addr) (d1 e1 d2 e2 f1 f2:Nat) (V:World) (hp:OArg V a1 d1 e1 p.2) (hq:OArg V a2 d2 e2 q.2) (h1:p.2.length≤100000) (h2:q.2.length≤100000)=>psame_any p.1 q.1 a1 a2 d1 e1 d2 e2 f1 f2 p.2 q.2 V hp hq h1 h2)
 obtain⟨n,hn⟩:∃n,A.length=n:=⟨_,rfl⟩
 obtain⟨m,hm'⟩:∃m,B.length=m:=⟨_,rfl⟩
 have HN:=xhd hn
 have HM:=xhd hm'
 rw [hn] at hm ⊢
 rw [hm'] at hm2 ⊢
 clear hA hB hn hm' hA2 hB2
 by_cases hnm:n=m
 ·subst hnm
  obtain⟨r,hr⟩:∃r,decide (A=B)=r:=⟨_,rfl⟩
  have HR:=xhd hr
  rw [hr]
  clear hr
  go_enter Tryz.func72,Tryz.ntmps72
  go_wp2
  go_loopw [17] (fun i' wr=>∃i:Nat,i≤n∧i'= .int .i64 i∧Hid (Below w.heap.size w wr)∧Hid (∀j (h1:j < A.length) (h2:j < B.length),j < i→A[j]=B[j])) (fun i' _=>n - (intOf i').toNat)
  case atStart=>exact⟨0,Nat.zero_le _,rfl,Below.refl _ w,fun j _ _ hj=>absurd hj (Nat.not_lt_zero _)⟩
  case round=>
   obtain⟨i,hi,rfl,HW,HO⟩:=hrel
   by_cases hlt:i < n
   ·have h1:i < A.length:=by rw [HN.out];exact hlt
    have h2:i < B.length:=by rw [HM.out];exact hlt
    have hA:=HA.out.below HW.out
    have hB:=HB.out.below HW.out
    obtain⟨rfl,hb1⟩:=hA.at_ (by omega)
    obtain⟨rfl,hb2⟩:=hB.at_ (by omega)
    obtain⟨ai,bi,oi,ci,x0,x1,hoa⟩:=hA.cells i h1
    obtain⟨aj,bj,oj,cj,y0,y1,hob⟩:=hB.cells i h2
    have hl1:=HA2.out _ (List.getElem_mem h1)
    have hl2:=HB2.out _ (List.getElem_mem h2)
    obtain⟨q,hq⟩:∃q,decide (A[i]=B[i])=q:=⟨_,rfl⟩
    have HQ:=xhd hq
    have hq2:eqR A[i] B[i]=q:=hq
    obtain⟨⟨f,P⟩,hx⟩:∃x,A[i]=x:=⟨_,rfl⟩
    obtain⟨⟨g,Q⟩,hy⟩:∃x,B[i]=x:=⟨_,rfl⟩
    rw [hx] at x0 x1 hoa hl1 hq2
    rw [hy] at y0 y1 hob hl2 hq2
    simp only at x0 x1 y0 y1 hoa hob hl1 hl2
    have hb2':Below wr.heap.size wr ((wr.alloc (.cells #[.bool f, .slice ai P.length ci] 49)).alloc (.cells #[.bool g, .slice aj Q.length cj] 49)):=((Below.refl _ wr).alloc (Nat.le_refl _) _).alloc (by simp) _
    have hs:=HSM.out (f,P) (g,Q) ai aj bi oi bj oj ci cj _ (hoa.below hb2') (hob.below hb2') hl1 hl2
    rw [hq2] at hs
    simp only at hs
    obtain⟨np,hnp⟩:∃n,P.length=n:=⟨_,rfl⟩
    obtain⟨nq,hnq⟩:∃n,Q.length=n:=⟨_,rfl⟩
    rw [hnp] at hs x1 hb2'
    rw [hnq] at hs y1 hb2'
    have HSS:=xhd hs
    have HBB:=xhd (HW.out.trans (hb2'.mono HW.out.size))
    have i0:(0:Int)≤i:=by omega
    have i1:(i:Int) < n:=by omega
    have i2:IntKind.i64.wrap ((i:Int)+1)=(i:Int)+1:=by rw [IntKind.wrap_i64];omega
    have hb3:bi=bi:=rfl
    clear hx hy hA hB hq hq2 hoa hob hl1 hl2 hs hb2' hnp hnq hb3
    cases q with
    |true=>
     have HO2:Hid (∀j (h1:j < A.length) (h2:j < B.length),j < i+1→A[j]=B[j]):=xhd (fun j k1 k2 hji=>by
      rcases Nat.lt_or_ge j i with h|h
      ·exact HO.out j k1 k2 h
      ·have:j=i:=by omega
       subst this
       exact of_decide_eq_true HQ.out)
     go_wp2_with fail
     with_reducible refine HSS.out.mono ?_
     rintro e w1 ⟨rfl,hb⟩
     have HB1:=xhd (HBB.out.trans (hb.mono HBB.out.size))
     clear hb x0 x1 y0 y1
     go_wp2
     go_roundw
     case rel=>exact⟨i+1,by omega,by go_num,HB1,HO2⟩
     case measure=>simp [intOf];omega
    |false=>
     have HE:Hid (r=false):=xhd (HR.out.symm.trans (by
      simp only [decide_eq_false_iff_not]
      intro h
      have:∀(C:List Prg) (h:A=C) (h2:i < C.length),A[i]=C[i]:=by rintro C rfl h2;rfl
      exact of_decide_eq_false HQ.out (this B h h2)))
     go_wp2_with fail
     with_reducible refine HSS.out.mono ?_
     rintro e w1 ⟨rfl,hb⟩
     have HB1:=xhd (HBB.out.trans (hb.mono HBB.out.size))
     clear hb x0 x1 y0 y1
     go_wp2
     go_ret
     exact⟨congrArg (fun x=>Ending.returned (.bool x)) HE.out.symm,HB1.out⟩
   ·have HE:Hid (r=true):=xhd (HR.out.symm.trans (by
      simp only [decide_eq_true_eq]
      exact list_eq (HN.out.trans HM.out.symm) (fun j k1 k2=>HO.out j k1 k2 (by have:=HN.out;omega))))
    go_wp2
    go_ret
    exact⟨congrArg (fun x=>Ending.returned (.bool x)) HE.out.symm,HW.out⟩
 ·have e:decide (A=B)=false:=by
    simp only [decide_eq_false_iff_not]
    rintro rfl
    exact hnm (HN.out.symm.trans HM.out)
  rw [e]
  have hnb:((n:Int) == m)=false:=by simp;omega
  go_enter Tryz.func72,Tryz.ntmps72
  go_wp2
  go_ret
  exact⟨rfl,Below.refl _ w⟩
theorem pssame_any (s:Stp) (ag:Option Addr) (bg og cg:Nat) (al:Option Addr) (bl ol cl:Nat) (ap:Option Addr) (bp op cp:Nat) (s2:Stp) (ag2:Option Addr) (bg2 og2 cg2:Nat) (al2:Option Addr) (bl2 ol2 cl2:Nat) (ap2:Option Addr) (bp2 op2 cp2:Nat) (w:World) (h:SArg w s ag bg og al bl ol ap bp op) (h2:SArg w s2 ag2 bg2 og2 al2 bl2 ol2 ap2 bp2 op2) (hz:SSize s) (hz2:SSize s2):
  Calls Tryz.prog 35 #[.agg (stC s.1 s.2.1 ag s.2.2.1.length cg al s.2.2.2.1.length cl ap s.2.2.2.2.length cp), .agg (stC s2.1 s2.2.1 ag2 s2.2.2.1.length cg2 al2 s2.2.2.2.1.length cl2 ap2 s2.2.2.2.2.length cp2)] w fun e w'=>e= .returned (.bool (eqS s s2))∧Below w.heap.size w w':=by
 obtain⟨c,g,gs,ls,ps⟩:=s
 obtain⟨c2,g2,gs2,ls2,ps2⟩:=s2
 obtain⟨k1,k2,k3⟩:=h
 obtain⟨m1,m2,m3⟩:=h2
 obtain⟨z1,z2,z3,z4⟩:=hz
 obtain⟨y1,y2,y3,y4⟩:=hz2
 simp only at k1 k2 k3 m1 m2 m3 z1 z2 z3 z4 y1 y2 y3 y4 ⊢
 unfold eqS
 simp only
 obtain⟨qg,hqg⟩:∃q,decide (gs=gs2)=q:=⟨_,rfl⟩
 obtain⟨ql,hql⟩:∃q,decide (ls=ls2)=q:=⟨_,rfl⟩
 obtain⟨qp,hqp⟩:∃q,decide (ps=ps2)=q:=⟨_,rfl⟩
 have hg:=fun V (hV:Below w.heap.size w V)=>equalint_any ag ag2 bg og bg2 og2 cg cg2 gs gs2 V (k1.below hV) (m1.below hV) z1 y1
 have hl:=fun V (hV:Below w.heap.size w V)=>equallock_any al al2 bl ol bl2 ol2 cl cl2 ls ls2 V (k2.below hV) (m2.below hV) z2 y2
 have hp:=fun V (hV:Below w.heap.size w V)=>equalprog_any ap ap2 bp op bp2 op2 cp cp2 ps ps2 V (k3.below hV) (m3.below hV) z3 y3 (fun x hx=>(z4 x hx).1) (fun x hx=>(y4 x hx).1)
 rw [hqg] at hg ⊢
 rw [hql] at hl ⊢
 rw [hqp] at hp ⊢
 obtain⟨ng,hng⟩:∃n,gs.length=n:=⟨_,rfl⟩
 obtain⟨nl,hnl⟩:∃n,ls.length=n:=⟨_,rfl⟩
 obtain⟨np,hnp⟩:∃n,ps.length=n:=⟨_,rfl⟩
 obtain⟨ng2,hng2⟩:∃n,gs2.length=n:=⟨_,rfl⟩
 obtain⟨nl2,hnl2⟩:∃n,ls2.length=n:=⟨_,rfl⟩
 obtain⟨np2,hnp2⟩:∃n,ps2.length=n:=⟨_,rfl⟩
 rw [hng,hng2] at hg
 rw [hnl,hnl2] at hl
 rw [hnp,hnp2] at hp
 rw [hng,hnl,hnp,hng2,hnl2,hnp2]
 have HG:=xhd hg
 have HL:=xhd hl
 have HP:=xhd hp
 have HB0:=xhd (((Below.refl w.heap.size w).alloc (Nat.le_refl _) (.cells (stC c g ag ng cg al nl cl ap np cp) 26)).alloc (by simp) (.cells (stC c2 g2 ag2 ng2 cg2 al2 nl2 cl2 ap2 np2 cp2) 26))
 have HX:Hid (∀V,Below ((w.alloc (.cells (stC c g ag ng cg al nl cl ap np cp) 26)).alloc (.cells (stC c2 g2 ag2 ng2 cg2 al2 nl2 cl2 ap2 np2 cp2) 26)).heap.size ((w.alloc (.cells (stC c g ag ng cg al nl cl ap np cp) 26)).alloc (.cells (stC c2 g2 ag2 ng2 cg2 al2 nl2 cl2 ap2 np2 cp2) 26)) V→V.heap[w.heap.size]?=some (.cells (stC c g ag ng cg al nl cl ap np cp) 26 (0,0))∧V.heap[w.heap.size+1]?=some (.cells (stC c2 g2 ag2 ng2 cg2 al2 nl2 cl2 ap2 np2 cp2) 26 (0,0))):=xhd (fun V hV=>by
  have h1:=heap_alloc_new w (.cells (stC c g ag ng cg al nl cl ap np cp) 26)
  have h2:=heap_alloc_new (w.alloc (.cells (stC c g ag ng cg al nl cl ap np cp) 26)) (.cells (stC c2 g2 ag2 ng2 cg2 al2 nl2 cl2 ap2 np2 cp2) 26)
  rw [World.size_alloc] at h2
  exact⟨(hV.block _ (by simp only [World.size_alloc];omega)).trans ((Below.heap_alloc _ _ _ (by simp)).trans h1),(hV.block _ (by simp only [World.size_alloc];omega)).trans h2⟩)
 clear hg hl hp k1 k2 k3 m1 m2 m3 z1 z2 z3 z4 y1 y2 y3 y4 hng hnl hnp hng2 hnl2 hnp2 hqg hql hqp
 cases h1:(c == c2) with
 |false=>
  have e:decide (c=c2)=false:=by simpa using h1
  rw [e]
  clear e
  go_enter Tryz.func35,Tryz.ntmps35
  go_wp2
  go_ret
  exact⟨rfl,HB0.out⟩
 |true=>
  have e:decide (c=c2)=true:=by simpa using h1
  rw [e,Bool.true_and]
  clear e
  cases h2:(g == g2) with
  |false=>
   have e:decide (g=g2)=false:=by simpa using h2
   rw [e]
   clear e
   go_enter Tryz.func35,Tryz.ntmps35
   go_wp2
   go_ret
   exact⟨rfl,HB0.out⟩
  |true=>
   have e:decide (g=g2)=true:=by simpa using h2
   rw [e,Bool.true_and]
   clear e
   cases qg with
   |false=>
    go_enter Tryz.func35,Tryz.ntmps35
    go_wp2_with fail
    with_reducible refine (HG.out _ HB0.out).mono ?_
    rintro e w1 ⟨rfl,hb⟩
    have HB1:=xhd (HB0.out.trans (hb.mono HB0.out.size))
    clear hb
    go_wp2
    go_ret
    exact⟨rfl,HB1.out⟩
   |true=>
    cases ql with
    |false=>
     go_enter Tryz.func35,Tryz.ntmps35
     go_wp2_with fail
     with_reducible refine (HG.out _ HB0.out).mono ?_
     rintro e w1 ⟨rfl,hb⟩
     have HB1:=xhd (HB0.out.trans (hb.mono HB0.out.size))
     have hx:=HX.out _ hb
     obtain⟨x0,x1,x2,x3,x4⟩:=st_cells hx.1
     obtain⟨y0,y1,y2,y3,y4⟩:=st_cells hx.2
     clear hb hx
     go_wp2_with fail
     with_reducible refine (HL.out _ HB1.out).mono ?_
     rintro e w2 ⟨rfl,hb⟩
     have HB2:=xhd (HB1.out.trans (hb.mono HB1.out.size))
     clear hb x0 x1 x2 x3 x4 y0 y1 y2 y3 y4
     go_wp2
     go_ret
     exact⟨rfl,HB2.out⟩
    |true=>
     go_enter Tryz.func35,Tryz.ntmps35
     go_wp2_with fail
     with_reducible refine (HG.out _ HB0.out).mono ?_
     rintro e w1 ⟨rfl,hb⟩
     have HB1:=xhd (HB0.out.trans (hb.mono HB0.out.size))
     have HBX:=xhd hb
     have hx:=HX.out _ hb
     obtain⟨x0,x1,x2,x3,x4⟩:=st_cells hx.1
     obtain⟨y0,y1,y2,y3,y4⟩:=st_cells hx.2
     clear hb hx
     go_wp2_with fail
     with_reducible refine (HL.out _ HB1.out).mono ?_
     rintro e w2 ⟨rfl,hb⟩
     have HB2:=xhd (HB1.out.trans (hb.mono HB1.out.size))
     have hx:=HX.out _ (HBX.out.trans (hb.mono HBX.out.size))
     clear x0 x1 x2 x3 x4 y0 y1 y2 y3 y4
     obtain⟨x0,x1,x2,x3,x4⟩:=st_cells hx.1
     obtain⟨y0,y1,y2,y3,y4⟩:=st_cells hx.2
     clear hb hx
     go_wp2_with fail
     with_reducible refine (HP.out _ HB2.out).mono ?_
     rintro e w3 ⟨rfl,hb⟩
     have HB3:=xhd (HB2.out.trans (hb.mono HB2.out.size))
     clear hb x0 x1 x2 x3 x4 y0 y1 y2 y3 y4
     go_wp2
     go_ret
     exact⟨rfl,HB3.out⟩
theorem eqS_self (s:Stp):eqS s s=true:=(eqS_true s s).2 rfl
theorem none_size:SSize noneS:=⟨by decide,by decide,by decide,fun x hx=>by cases hx⟩
theorem may_size {s:Stp} (h:mayS s=true):SSize s:=by
 obtain⟨c,g,gs,ls,ps⟩:=s
 rw [mayS_eq] at h
 simp only [Bool.and_eq_true,decide_eq_true_eq,inS,List.all_eq_true] at h
 obtain⟨_,_,hg,hl,hp,_,_,hf⟩:=h
 refine⟨by simp only;omega,by simp only;omega,by simp only;omega,fun x hx=>?_⟩
 have hm:=check_may (of_decide_eq_true (hf x hx))
 simp only [mayR,Bool.and_eq_true,decide_eq_true_eq,List.all_eq_true] at hm
 exact⟨by omega,fun o ho=>op_small (hm.2.2 o ho)⟩
end Go.Proofs.YtbnhnnccioljhaaGreatDoor
