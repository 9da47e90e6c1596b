/-
  The first program that doesn't fit.
  The program's untold; slices.ContainsFunc over locks with it.
  The document's Same of setups. (Made by gen_rsame.py.)
-/
import Derived.Test.YtbnhnnccioljhaaGreatDoorZAX
import Derived.Test.YtbnhnnccioljhaaGreatDoorZAY
import Derived.Test.YtbnhnnccioljhaaGreatDoorZAS
import Derived.Deep.RegionHeld3
import Derived.Test.YtbnhnnccioljhaaGreatDoorZAl
set_option maxRecDepth 100000
set_option maxHeartbeats 25600000
namespace Go.Proofs.YtbnhnnccioljhaaGreatDoor
open Go.RowKit
def misS (locks:List Lk) (n:Int):List Prg→Nat→Nat×Int
 |[],_=>(0,0)
 |p::ps,i=>if (checkR p locks n).2=0 then misS locks n ps (i+1) else (i,(checkR p locks n).2)
theorem mis_all (locks:List Lk) (n:Int):∀(ps:List Prg) (i:Nat),((misS locks n ps i).2=0↔ps.all (fitS locks n)=true)
 |[],i=>by simp [misS]
 |p::ps,i=>by
  unfold misS
  rw [List.all_cons]
  by_cases h:(checkR p locks n).2=0
  ·rw [if_pos h,mis_all locks n ps (i+1)]
   unfold fitS
   rw [decide_eq_true h,Bool.true_and]
  ·rw [if_neg h]
   unfold fitS
   rw [decide_eq_false h,Bool.false_and]
   simp only [Bool.false_eq_true,iff_false]
   exact h
theorem mis_unfit (locks:List Lk) (n:Int):∀(ps:List (Prg×Nat)) (i:Nat),match unfitS locks n ps with
  |none=>misS locks n (ps.map (·.1)) i=(0,0)
  |some e=>∃(j:Nat) (hj:j < ps.length),misS locks n (ps.map (·.1)) i=(i+j,e.2)∧e.1=ps[j].2∧e.2≠0
 |[],i=>rfl
 |x::ps,i=>by
  unfold unfitS misS
  simp only [List.map_cons]
  by_cases h:(checkR x.1 locks n).2=0
  ·rw [if_pos h,if_pos h]
   have ih:=mis_unfit locks n ps (i+1)
   split
   ·next h1=>
    rw [h1] at ih
    exact ih
   ·next e h1=>
    rw [h1] at ih
    obtain⟨j,hj,a,b,c⟩:=ih
    exact⟨j+1,by simp;omega,by rw [a];congr 1;omega,by simpa using b,c⟩
  ·rw [if_neg h,if_neg h]
   exact⟨0,by simp,rfl,rfl,h⟩
theorem misfit_any (s:Stp) (ag:Option Addr) (bg og cg:Nat) (al:Option Addr) (bl ol cl:Nat) (ap:Option Addr) (bp op cp:Nat) (w:World) (h:SArg w s ag bg og al bl ol ap bp op) (z2:s.2.2.2.1.length≤100000) (z3:s.2.2.2.2.length≤100000):
  Calls Tryz.prog 62 #[.agg (stC s.1 s.2.1 ag s.2.2.1.length cg al s.2.2.2.1.length cl ap s.2.2.2.2.length cp)] w fun e w'=>e= .returned (.tuple #[.int .i64 ((misS s.2.2.2.1 s.2.2.2.2.length s.2.2.2.2 0).1:Nat), .int .i64 (misS s.2.2.2.1 s.2.2.2.2.length s.2.2.2.2 0).2])∧Below w.heap.size w w':=by
 obtain⟨c,g,gs,ls,ps⟩:=s
 obtain⟨h1,h2,h3⟩:=h
 simp only at h1 h2 h3 z2 z3 ⊢
 have HGA:=xhd h3
 have HCK:=xhd (fun (V:World) (hV:Below w.heap.size w V) (p:Prg) (ai:Option Addr) (bi oi ci:Nat) (ho:OArg V ai bi oi p.2)=>pcheck_any p.1 ai bi oi ci p.2 al bl ol cl ls ps.length V ho (h2.below hV) z2)
 obtain⟨G,hG⟩:∃G,misS ls ps.length ps 0=G:=⟨_,rfl⟩
 have HG0:=xhd hG
 rw [hG]
 obtain⟨n,hn⟩:∃n,ps.length=n:=⟨_,rfl⟩
 obtain⟨nl,hnl⟩:∃n,ls.length=n:=⟨_,rfl⟩
 obtain⟨ng,hng⟩:∃n,gs.length=n:=⟨_,rfl⟩
 have HN:=xhd hn
 rw [hn,hnl] at HCK
 rw [hn] at HG0 z3
 rw [hn,hnl,hng]
 have HB0:=xhd ((Below.refl w.heap.size w).alloc (Nat.le_refl _) (.cells (stC c g ag ng cg al nl cl ap n cp) 26))
 have HX0:=xhd (heap_alloc_new w (.cells (stC c g ag ng cg al nl cl ap n cp) 26))
 clear h1 h2 h3 z2 hG hn hnl hng
 go_enter Tryz.func62,Tryz.ntmps62
 go_wp2_with fail
 go_loopw [11] (fun i' wr=>∃i:Nat,i'= .int .i64 i∧i≤n∧Hid (Below w.heap.size w wr)∧Hid (wr.heap[w.heap.size]?=some (.cells (stC c g ag ng cg al nl cl ap n cp) 26 (0,0)))∧Hid (misS ls n (ps.drop i) i=G)) (fun i' _=>n - (intOf i').toNat)
 case atStart=>exact⟨0,rfl,Nat.zero_le _,HB0,HX0,HG0⟩
 case round=>
  obtain⟨i,rfl,hi,HB,HX,HG⟩:=hrel
  obtain⟨x0,x1,x2,x3,x4⟩:=st_cells HX.out
  have hxl:=lt_of_block HX.out
  by_cases hlt:i < n
  ·have hiL:i < ps.length:=by rw [HN.out];exact hlt
   have hA:=HGA.out.below HB.out
   obtain⟨rfl,hbl⟩:=hA.at_ (by omega)
   obtain⟨ai,bi,oi,ci,y0,y1,hoa⟩:=hA.cells i hiL
   obtain⟨⟨f,ops⟩,hp⟩:∃p,ps[i]=p:=⟨_,rfl⟩
   have hg:=HG.out
   rw [List.drop_eq_getElem_cons hiL,hp] at hg
   unfold misS at hg
   rw [hp] at y0 y1 hoa
   simp only at y0 y1 hoa
   have i0:(0:Int)≤i:=by omega
   have i1:(i:Int) < n:=by omega
   have i2:IntKind.i64.wrap ((i:Int)+1)=(i:Int)+1:=by rw [IntKind.wrap_i64];omega
   have hba:Below w.heap.size w (wr.alloc (.cells #[.bool f, .slice ai ops.length ci] 49)):=HB.out.alloc HB.out.size _
   have HCC:=xhd (HCK.out _ hba (f,ops) ai bi oi ci (hoa.below ((Below.refl _ wr).alloc (Nat.le_refl _) _)))
   have HXA:=xhd ((Below.heap_alloc wr (.cells #[.bool f, .slice ai ops.length ci] 49) _ hxl).trans HX.out)
   have HBA:=xhd hba
   obtain⟨⟨ci1,ce⟩,hck⟩:∃r,checkR (f,ops) ls n=r:=⟨_,rfl⟩
   rw [hck] at HCC hg
   simp only at hg HCC
   obtain⟨m,hm⟩:∃m,ops.length=m:=⟨_,rfl⟩
   rw [hm] at HCC HXA HBA y1
   clear hA hoa hba hm hck hp
   by_cases hce:ce=0
   ·rw [if_pos hce] at hg
    have HG2:=xhd hg
    subst hce
    clear hg
    go_wp2_with fail
    refine HCC.out.mono ?_
    rintro r w1 ⟨rfl,hb⟩
    have HB1:=xhd (HBA.out.trans (hb.mono HBA.out.size))
    have HX1:=xhd ((hb.block _ (lt_of_block HXA.out)).trans HXA.out)
    clear hb x0 x1 x2 x3 x4 y0 y1
    go_wp2
    go_roundw
    case rel=>exact⟨i+1,by go_num,by omega,HB1,HX1,HG2⟩
    case measure=>simp [intOf];omega
   ·rw [if_neg hce] at hg
    have HG2:=xhd hg
    have hce1:(ce != 0)=true:=by simpa using hce
    clear hg hce
    go_wp2_with fail
    refine HCC.out.mono ?_
    rintro r w1 ⟨rfl,hb⟩
    have HB1:=xhd (HBA.out.trans (hb.mono HBA.out.size))
    clear hb x0 x1 x2 x3 x4 y0 y1
    go_wp2
    go_ret2
    exact⟨by rw [←HG2.out]<;>rfl,HB1.out⟩
  ·have hg:=HG.out
   rw [List.drop_of_length_le (by rw [HN.out];omega)] at hg
   have HG2:=xhd hg
   clear hg x0 x1 x2 x3 x4
   go_wp2
   go_ret2
   exact⟨by rw [←HG2.out];rfl,HB.out⟩
def untR (x:Lk):Bool:=!x.1&&(!decide (x.2.2.2.1=0)||!decide (x.2.2.2.2=0))
theorem untold_any (x:Lk) (w:World):Calls Tryz.prog 117 #[.agg (lkA x)] w fun e w'=>e= .returned (.bool (untR x))∧Below w.heap.size w w':=by
 obtain⟨sh,sl,cr,rd,wr⟩:=x
 have HB:=xhd ((Below.refl w.heap.size w).alloc (Nat.le_refl _) (.cells #[.bool sh, .int .i64 sl, .int .i64 cr, .int .i64 rd, .int .i64 wr] 100))
 cases sh with
 |true=>
  go_enter Tryz.func117,Tryz.ntmps117
  go_wp2
  go_ret
  exact⟨rfl,HB.out⟩
 |false=>
  by_cases h1:rd=0
  ·subst h1
   by_cases h2:wr=0
   ·subst h2
    go_enter Tryz.func117,Tryz.ntmps117
    go_wp2
    go_ret
    exact⟨rfl,HB.out⟩
   ·have e:untR (false,sl,cr,0,wr)=true:=by simp [untR,h2]
    have q:(wr != 0)=true:=by simpa using h2
    rw [e]
    clear h2 e
    go_enter Tryz.func117,Tryz.ntmps117
    go_wp2
    go_ret
    exact⟨rfl,HB.out⟩
  ·have e:untR (false,sl,cr,rd,wr)=true:=by simp [untR,h1]
   have q:(rd != 0)=true:=by simpa using h1
   rw [e]
   clear h1 e
   go_enter Tryz.func117,Tryz.ntmps117
   go_wp2
   go_ret
   exact⟨rfl,HB.out⟩
abbrev untV:Value:= .func (.func 117) #[] #[]
theorem indexunt_any (ao:Option Addr) (b off cap:Nat) (L:List Lk) (w:World) (h:LArg w ao b off L) (hm:L.length≤100000):
  Calls Tryz.prog 154 #[.slice ao L.length cap,untV] w fun e w'=>(∃r:Int,e= .returned (.int .i64 r)∧decide (0≤r)=L.any untR)∧Below w.heap.size w w':=by
 have HA:=xhd h
 have HR:=xhd (fun x V=>untold_any x V)
 obtain⟨n,hn⟩:∃n,L.length=n:=⟨_,rfl⟩
 have HN:=xhd hn
 rw [hn] at hm ⊢
 clear h hn
 go_enter Tryz.func154,Tryz.ntmps154
 go_wp2
 go_loopw [8] (fun s wr=>∃i:Nat,s= .int .i64 (i:Nat)∧i≤n∧Hid (Below w.heap.size w wr)∧Hid (∀j (hj:j < L.length),j < i→untR L[j]=false)) (fun s _=>n - (intOf s).toNat)
 case atStart=>exact⟨0,rfl,Nat.zero_le _,Below.refl _ w,fun j _ hj=>absurd hj (Nat.not_lt_zero _)⟩
 case round=>
  obtain⟨i,rfl,hi,HB,HO⟩:=hrel
  by_cases hlt:i < n
  ·have hiL:i < L.length:=by rw [HN.out];exact hlt
   have hA:=HA.out.below HB.out
   obtain⟨rfl,hbl⟩:=hA.at_ (by omega)
   have hcells:=hA.cells i hiL
   obtain⟨⟨sh,sl,cr,rd,wt⟩,hx⟩:∃x,L[i]=x:=⟨_,rfl⟩
   rw [hx] at hcells
   obtain⟨x0,x1,x2,x3,x4⟩:=hcells
   simp only at x0 x1 x2 x3 x4
   have HX:=xhd hx
   have i0:(0:Int)≤i:=by omega
   have i1:(i:Int) < n:=by omega
   have i2:IntKind.i64.wrap ((i:Int)+1)=(i:Int)+1:=by rw [IntKind.wrap_i64];omega
   have HRK:=xhd (fun V=>HR.out (sh,sl,cr,rd,wt) V)
   obtain⟨q,hq⟩:∃q,untR (sh,sl,cr,rd,wt)=q:=⟨_,rfl⟩
   have HQ:=xhd hq
   rw [hq] at HRK
   clear hx hq hA
   cases q with
   |true=>
    have HE:Hid (L.any untR=true):=xhd (by
     rw [List.any_eq_true]
     exact⟨_,List.getElem_mem hiL,by rw [HX.out];exact HQ.out⟩)
    go_wp2_with fail
    with_reducible refine (HRK.out _).mono ?_
    rintro e w1 ⟨rfl,hb⟩
    have HB1:=xhd (HB.out.trans (hb.mono HB.out.size))
    clear hb
    go_wp2
    go_ret
    exact⟨⟨_,rfl,by rw [HE.out];exact decide_eq_true i0⟩,HB1.out⟩
   |false=>
    have HO2:Hid (∀j (hj:j < L.length),j < i+1→untR L[j]=false):=xhd (fun j hj hji=>by
     rcases Nat.lt_or_ge j i with h|h
     ·exact HO.out j hj h
     ·obtain rfl:j=i:=by omega
      rw [HX.out]
      exact HQ.out)
    go_wp2_with fail
    with_reducible refine (HRK.out _).mono ?_
    rintro e w1 ⟨rfl,hb⟩
    have HB1:=xhd (HB.out.trans (hb.mono HB.out.size))
    clear hb
    go_wp2
    go_roundw
    case rel=>exact⟨i+1,by go_num,by omega,HB1,HO2⟩
    case measure=>simp [intOf];omega
  ·have HE:Hid (L.any untR=false):=xhd (by
     rw [List.any_eq_false]
     intro o ho
     obtain⟨j,hj,rfl⟩:=List.getElem_of_mem ho
     rw [HO.out j hj (by have:=HN.out;omega)]
     decide)
   go_wp2
   go_ret
   exact⟨⟨_,rfl,by rw [HE.out];rfl⟩,HB.out⟩
theorem containsunt_any (ao:Option Addr) (b off cap:Nat) (L:List Lk) (w:World) (h:LArg w ao b off L) (hm:L.length≤100000):
  Calls Tryz.prog 116 #[.slice ao L.length cap,untV] w fun e w'=>e= .returned (.bool (L.any untR))∧Below w.heap.size w w':=by
 have HI:=xhd (indexunt_any ao b off cap L w h hm)
 obtain⟨n,hn⟩:∃n,L.length=n:=⟨_,rfl⟩
 obtain⟨q,hq⟩:∃q,L.any untR=q:=⟨_,rfl⟩
 rw [hn,hq] at HI
 rw [hn,hq]
 clear h hn hq hm
 go_enter Tryz.func116,Tryz.ntmps116
 go_wp2_with fail
 with_reducible refine HI.out.mono ?_
 rintro e w1 ⟨⟨r,rfl,hr⟩,hb⟩
 have HR:=xhd hr
 have HB:=xhd hb
 clear hr hb
 go_wp2
 go_ret
 exact⟨by rw [←HR.out];rfl,HB.out⟩
def eqS (a b:Stp):Bool:=decide (a.1=b.1)&&(decide (a.2.1=b.2.1)&&(decide (a.2.2.1=b.2.2.1)&&(decide (a.2.2.2.1=b.2.2.2.1)&&decide (a.2.2.2.2=b.2.2.2.2))))
theorem eqS_true (a b:Stp):eqS a b=true↔a=b:=by
 obtain⟨a1,a2,a3,a4,a5⟩:=a
 obtain⟨b1,b2,b3,b4,b5⟩:=b
 simp [eqS]
theorem eqS_false (a b:Stp):eqS a b=false↔¬a=b:=by
 rw [←eqS_true]
 simp
structure Sy2 (w W:World) (cs ds:Array Value):Prop where
 a:W.heap[w.heap.size]?=some (.cells cs 26 (0,0))
 b:W.heap[w.heap.size+1]?=some (.cells ds 26 (0,0))
 bel:Below w.heap.size w W
theorem Sy2.below {w W W':World} {cs ds:Array Value} (h:Sy2 w W cs ds) (hb:Below W.heap.size W W'):Sy2 w W' cs ds:=
 ⟨(hb.block _ (lt_of_block h.a)).trans h.a,(hb.block _ (lt_of_block h.b)).trans h.b,h.bel.trans (hb.mono h.bel.size)⟩
theorem sy2_start (w:World) (cs ds:Array Value):Sy2 w ((w.alloc (.cells cs 26)).alloc (.cells ds 26)) cs ds:=by
 have h1:=heap_alloc_new w (.cells cs 26)
 have h2:=heap_alloc_new (w.alloc (.cells cs 26)) (.cells ds 26)
 rw [World.size_alloc] at h2
 exact⟨(Below.heap_alloc _ _ _ (by simp)).trans h1,h2,((Below.refl _ w).alloc (Nat.le_refl _) _).alloc (by simp) _⟩
theorem list_same {α:Type} {A B:List α} {n:Nat} (hA:A.length=n) (hB:B.length=n) (h:∀j (h1:j < A.length) (h2:j < B.length),j < n→A[j]=B[j]):A=B:=
 List.ext_getElem (by omega) (fun i h1 h2=>h i h1 h2 (by omega))
theorem list_other {α:Type} {A B:List α} {i:Nat} (h1:i < A.length) (h2:i < B.length) (h:A[i]≠B[i]):A≠B:=by
 rintro rfl
 exact h rfl
theorem rssame_any (s:Stp) (ag:Option Addr) (bg og cg:Nat) (al:Option Addr) (bl ol cl:Nat) (ap:Option Addr) (bp op cp:Nat) (s2:Stp) (ag2:Option Addr) (bg2 og2 cg2:Nat) (al2:Option Addr) (bl2 ol2 cl2:Nat) (ap2:Option Addr) (bp2 op2 cp2:Nat) (w:World) (h:SArg w s ag bg og al bl ol ap bp op) (h2:SArg w s2 ag2 bg2 og2 al2 bl2 ol2 ap2 bp2 op2) (hz:SSize s) (hz2:SSize s2):
  Calls Tryz.prog 34 #[.agg (stC s.1 s.2.1 ag s.2.2.1.length cg al s.2.2.2.1.length cl ap s.2.2.2.2.length cp), .agg (stC s2.1 s2.2.1 ag2 s2.2.2.1.length cg2 al2 s2.2.2.2.1.length cl2 ap2 s2.2.2.2.2.length cp2)] w fun e w'=>e= .returned (.bool (eqS s s2))∧Below w.heap.size w w':=by
 obtain⟨c,g,gs,ls,ps⟩:=s
 obtain⟨c2,g2,gs2,ls2,ps2⟩:=s2
 have HG:=xhd h.gs
 have HL:=xhd h.ls
 have HP:=xhd h.ps
 have HG2:=xhd h2.gs
 have HL2:=xhd h2.ls
 have HP2:=xhd h2.ps
 have zg:=hz.g
 have zl:=hz.l
 have zp:=hz.p
 simp only at HG HL HP HG2 HL2 HP2 zg zl zp ⊢
 have HCK:=xhd (fun V i (hi:i < ps.length) (hi2:i < ps2.length) (ai:Option Addr) (bi oi ci:Nat) (aj:Option Addr) (bj oj cj:Nat) (ho:OArg V ai bi oi (ps[i]).2) (ho2:OArg V aj bj oj (ps2[i]).2)=>rsame_any (ps[i]).1 (ps2[i]).1 ai aj bi oi bj oj ci cj (ps[i]).2 (ps2[i]).2 V ho ho2 (hz.ops _ (List.getElem_mem hi)).1 (hz2.ops _ (List.getElem_mem hi2)).1)
 obtain⟨ng,hng⟩:∃n,gs.length=n:=⟨_,rfl⟩
 obtain⟨nl,hnl⟩:∃n,ls.length=n:=⟨_,rfl⟩
 obtain⟨np,hnp⟩:∃n,ps.length=n:=⟨_,rfl⟩
 obtain⟨ng2,hng2⟩:∃n,gs2.length=n:=⟨_,rfl⟩
 obtain⟨nl2,hnl2⟩:∃n,ls2.length=n:=⟨_,rfl⟩
 obtain⟨np2,hnp2⟩:∃n,ps2.length=n:=⟨_,rfl⟩
 obtain⟨A,hA⟩:∃A,eqS (c,g,gs,ls,ps) (c2,g2,gs2,ls2,ps2)=A:=⟨_,rfl⟩
 rw [hA]
 have HA:=xhd hA
 have HNG:=xhd hng
 have HNL:=xhd hnl
 have HNP:=xhd hnp
 have HNG2:=xhd hng2
 have HNL2:=xhd hnl2
 have HNP2:=xhd hnp2
 rw [hng] at zg ⊢
 rw [hnl] at zl ⊢
 rw [hnp] at zp ⊢
 rw [hng2,hnl2,hnp2]
 have HY0:=xhd (sy2_start w (stC c g ag ng cg al nl cl ap np cp) (stC c2 g2 ag2 ng2 cg2 al2 nl2 cl2 ap2 np2 cp2))
 clear h h2 hz hz2 hA hng hnl hnp hng2 hnl2 hnp2
 by_cases ec:c=c2
 ·subst ec
  by_cases eg:g=g2
  ·subst eg
   by_cases eng:ng=ng2
   ·subst eng
    by_cases enl:nl=nl2
    ·subst enl
     by_cases enp:np=np2
     ·subst enp
      obtain⟨W0,hW0⟩:∃W0,(w.alloc (.cells (stC c g ag ng cg al nl cl ap np cp) 26)).alloc (.cells (stC c g ag2 ng cg2 al2 nl cl2 ap2 np cp2) 26)=W0:=⟨_,rfl⟩
      have HY:Hid (Sy2 w W0 (stC c g ag ng cg al nl cl ap np cp) (stC c g ag2 ng cg2 al2 nl cl2 ap2 np cp2)):=xhd (by
       rw [←hW0]
       exact HY0.out)
      have HW0:=xhd hW0
      clear hW0
      go_enter Tryz.func34,Tryz.ntmps34
      go_wp2_with fail
      rw [HW0.out]
      go_loopw [5] (fun s wr=>∃i:Nat,s= .int .i64 (i:Nat)∧i≤ng∧Hid (Sy2 w wr (stC c g ag ng cg al nl cl ap np cp) (stC c g ag2 ng cg2 al2 nl cl2 ap2 np cp2))∧Hid (∀j (h1:j < gs.length) (h2:j < gs2.length),j < i→gs[j]=gs2[j])) (fun s _=>ng - (intOf s).toNat)
      case atStart=>exact⟨0,rfl,Nat.zero_le _,HY,fun j _ _ hj=>absurd hj (Nat.not_lt_zero _)⟩
      case round=>
       obtain⟨i,rfl,hi,HM,HO⟩:=hrel
       obtain⟨c0,c1,c2,c3,c4⟩:=st_cells HM.out.a
       obtain⟨d0,d1,d2,d3,d4⟩:=st_cells HM.out.b
       by_cases hlt:i < ng
       ·have hiL:i < gs.length:=by rw [HNG.out];exact hlt
        have hiL2:i < gs2.length:=by rw [HNG2.out];exact hlt
        have hA:=HG.out.below HM.out.bel
        have hB:=HG2.out.below HM.out.bel
        obtain⟨rfl,hbl⟩:=hA.at_ (by omega)
        obtain⟨rfl,hbl2⟩:=hB.at_ (by omega)
        have x0:=hA.cells i hiL
        have y0:=hB.cells i hiL2
        have i0:(0:Int)≤i:=by omega
        have i1:(i:Int) < ng:=by omega
        have i2:IntKind.i64.wrap ((i:Int)+1)=(i:Int)+1:=by rw [IntKind.wrap_i64];omega
        obtain⟨x,hx⟩:∃x,gs[i]=x:=⟨_,rfl⟩
        obtain⟨y,hy⟩:∃x,gs2[i]=x:=⟨_,rfl⟩
        rw [hx] at x0
        rw [hy] at y0
        have HX:=xhd hx
        have HYY:=xhd hy
        clear hA hB hx hy
        by_cases he:x=y
        ·subst he
         have HO2:Hid (∀j (h1:j < gs.length) (h2:j < gs2.length),j < i+1→gs[j]=gs2[j]):=xhd (fun j h1 h2 hji=>by
          rcases Nat.lt_or_ge j i with h|h
          ·exact HO.out j h1 h2 h
          ·obtain rfl:j=i:=by omega
           rw [HX.out,HYY.out])
         go_wp2_with fail
         go_quiet (fail)
         go_wp2
         go_roundw
         case rel=>exact⟨i+1,by go_num,by omega,xhd (HM.out.below (below_drewN (Below.refl _ _) _)),HO2⟩
         case measure=>simp [intOf];omega
        ·have f1:(x == y)=false:=by simpa using he
         have f2:(x != y)=true:=by simpa using he
         have HE:Hid (A=false):=xhd (HA.out.symm.trans (by
          rw [eqS_false]
          intro h
          simp only [Prod.mk.injEq] at h
          exact list_other hiL hiL2 (by rw [HX.out,HYY.out];exact he) h.2.2.1))
         go_wp2_with fail
         go_quiet (fail)
         go_wp2
         go_ret
         exact⟨congrArg (fun x=>Ending.returned (.bool x)) HE.out.symm,below_drewN HM.out.bel _⟩
       ·have HEG:Hid (gs=gs2):=xhd (list_same HNG.out HNG2.out (fun j h1 h2 hj=>HO.out j h1 h2 (by omega)))
        have ni:¬(i:Int) < ng:=by omega
        go_wp2_with fail
        go_loopw [6] (fun s wr=>∃i:Nat,s= .int .i64 (i:Nat)∧i≤nl∧Hid (Sy2 w wr (stC c g ag ng cg al nl cl ap np cp) (stC c g ag2 ng cg2 al2 nl cl2 ap2 np cp2))∧Hid (∀j (h1:j < ls.length) (h2:j < ls2.length),j < i→ls[j]=ls2[j])) (fun s _=>nl - (intOf s).toNat)
        case atStart=>exact⟨0,rfl,Nat.zero_le _,HM,fun j _ _ hj=>absurd hj (Nat.not_lt_zero _)⟩
        case round=>
         clear c0 c1 c2 c3 c4 d0 d1 d2 d3 d4 hlt ni HM HO
         obtain⟨i,rfl,hi,HM,HO⟩:=hrel
         obtain⟨c0,c1,c2,c3,c4⟩:=st_cells HM.out.a
         obtain⟨d0,d1,d2,d3,d4⟩:=st_cells HM.out.b
         by_cases hlt:i < nl
         ·have hiL:i < ls.length:=by rw [HNL.out];exact hlt
          have hiL2:i < ls2.length:=by rw [HNL2.out];exact hlt
          have hA:=HL.out.below HM.out.bel
          have hB:=HL2.out.below HM.out.bel
          obtain⟨rfl,hbl⟩:=hA.at_ (by omega)
          obtain⟨rfl,hbl2⟩:=hB.at_ (by omega)
          obtain⟨x0,x1,x2,x3,x4⟩:=hA.cells i hiL
          obtain⟨y0,y1,y2,y3,y4⟩:=hB.cells i hiL2
          have i0:(0:Int)≤i:=by omega
          have i1:(i:Int) < nl:=by omega
          have i2:IntKind.i64.wrap ((i:Int)+1)=(i:Int)+1:=by rw [IntKind.wrap_i64];omega
          obtain⟨⟨u0,u1,u2,u3,u4⟩,hx⟩:∃x,ls[i]=x:=⟨_,rfl⟩
          obtain⟨⟨v0,v1,v2,v3,v4⟩,hy⟩:∃x,ls2[i]=x:=⟨_,rfl⟩
          rw [hx] at x0 x1 x2 x3 x4
          rw [hy] at y0 y1 y2 y3 y4
          simp only at x0 x1 x2 x3 x4 y0 y1 y2 y3 y4
          have HX:=xhd hx
          have HYY:=xhd hy
          have HNE:Hid (¬((u0,u1,u2,u3,u4):Lk)=(v0,v1,v2,v3,v4)→A=false):=xhd (fun he=>HA.out.symm.trans (by
           rw [eqS_false]
           intro h
           simp only [Prod.mk.injEq] at h
           exact list_other hiL hiL2 (by rw [HX.out,HYY.out];exact he) h.2.2.2.1))
          clear hA hB hx hy
          by_cases e0:u0=v0
          ·subst e0
           by_cases e1:u1=v1
           ·subst e1
            by_cases e2:u2=v2
            ·subst e2
             by_cases e3:u3=v3
             ·subst e3
              by_cases e4:u4=v4
              ·subst e4
               have HO2:Hid (∀j (h1:j < ls.length) (h2:j < ls2.length),j < i+1→ls[j]=ls2[j]):=xhd (fun j h1 h2 hji=>by
                rcases Nat.lt_or_ge j i with h|h
                ·exact HO.out j h1 h2 h
                ·obtain rfl:j=i:=by omega
                 rw [HX.out,HYY.out])
               go_wp2_with fail
               go_quiet (fail)
               go_wp2
               go_roundw
               case rel=>exact⟨i+1,by go_num,by omega,xhd (HM.out.below (below_drewN (Below.refl _ _) _)),HO2⟩
               case measure=>simp [intOf];omega
              ·have f1:(u4 == v4)=false:=by simpa using e4
               have HE:=xhd (HNE.out (by simp [e4]))
               go_wp2_with fail
               go_quiet (fail)
               go_wp2
               go_ret
               exact⟨congrArg (fun x=>Ending.returned (.bool x)) HE.out.symm,below_drewN HM.out.bel _⟩
             ·have f1:(u3 == v3)=false:=by simpa using e3
              have HE:=xhd (HNE.out (by simp [e3]))
              go_wp2_with fail
              go_quiet (fail)
              go_wp2
              go_ret
              exact⟨congrArg (fun x=>Ending.returned (.bool x)) HE.out.symm,below_drewN HM.out.bel _⟩
            ·have f1:(u2 == v2)=false:=by simpa using e2
             have HE:=xhd (HNE.out (by simp [e2]))
             go_wp2_with fail
             go_quiet (fail)
             go_wp2
             go_ret
             exact⟨congrArg (fun x=>Ending.returned (.bool x)) HE.out.symm,below_drewN HM.out.bel _⟩
           ·have f1:(u1 == v1)=false:=by simpa using e1
            have HE:=xhd (HNE.out (by simp [e1]))
            go_wp2_with fail
            go_quiet (fail)
            go_wp2
            go_ret
            exact⟨congrArg (fun x=>Ending.returned (.bool x)) HE.out.symm,below_drewN HM.out.bel _⟩
          ·have f1:(u0 == v0)=false:=by simpa using e0
           have HE:=xhd (HNE.out (by simp [e0]))
           go_wp2_with fail
           go_quiet (fail)
           go_wp2
           go_ret
           exact⟨congrArg (fun x=>Ending.returned (.bool x)) HE.out.symm,below_drewN HM.out.bel _⟩
         ·have HEL:Hid (ls=ls2):=xhd (list_same HNL.out HNL2.out (fun j h1 h2 hj=>HO.out j h1 h2 (by omega)))
          have ni:¬(i:Int) < nl:=by omega
          go_wp2_with fail
          go_loopw [7] (fun s wr=>∃i:Nat,s= .int .i64 (i:Nat)∧i≤np∧Hid (Sy2 w wr (stC c g ag ng cg al nl cl ap np cp) (stC c g ag2 ng cg2 al2 nl cl2 ap2 np cp2))∧Hid (∀j (h1:j < ps.length) (h2:j < ps2.length),j < i→ps[j]=ps2[j])) (fun s _=>np - (intOf s).toNat)
          case atStart=>exact⟨0,rfl,Nat.zero_le _,HM,fun j _ _ hj=>absurd hj (Nat.not_lt_zero _)⟩
          case round=>
           clear c0 c1 c2 c3 c4 d0 d1 d2 d3 d4 hlt ni HM HO
           obtain⟨i,rfl,hi,HM,HO⟩:=hrel
           by_cases hlt:i < np
           ·obtain⟨c0,c1,c2,c3,c4⟩:=st_cells HM.out.a
            obtain⟨d0,d1,d2,d3,d4⟩:=st_cells HM.out.b
            have hiL:i < ps.length:=by rw [HNP.out];exact hlt
            have hiL2:i < ps2.length:=by rw [HNP2.out];exact hlt
            have HB1:=xhd ((Below.refl wr.heap.size wr).drew)
            have hbd:=HM.out.below HB1.out
            have hA:=HP.out.below hbd.bel
            have hB:=HP2.out.below hbd.bel
            obtain⟨rfl,hbl⟩:=hA.at_ (by omega)
            obtain⟨rfl,hbl2⟩:=hB.at_ (by omega)
            obtain⟨ai,bi,oi,ci,x0,x1,ho⟩:=hA.cells i hiL
            obtain⟨aj,bj,oj,cj,y0,y1,ho2⟩:=hB.cells i hiL2
            have hck:=HCK.out _ i hiL hiL2 ai bi oi ci aj bj oj cj ho ho2
            obtain⟨⟨pf,pl⟩,hx⟩:∃x,ps[i]=x:=⟨_,rfl⟩
            obtain⟨⟨qf,ql⟩,hy⟩:∃x,ps2[i]=x:=⟨_,rfl⟩
            simp only [hx,hy] at x0 x1 y0 y1 hck
            have HX:=xhd hx
            have HYY:=xhd hy
            have p0:=And.intro (st_cells hbd.a).2.2.2.2 (And.intro (st_cells hbd.b).2.2.2.2 (And.intro x0 (And.intro x1 (And.intro y0 y1))))
            have i0:(0:Int)≤i:=by omega
            have i1:(i:Int) < np:=by omega
            have i2:IntKind.i64.wrap ((i:Int)+1)=(i:Int)+1:=by rw [IntKind.wrap_i64];omega
            obtain⟨q,hq⟩:∃q,eqR (pf,pl) (qf,ql)=q:=⟨_,rfl⟩
            rw [hq] at hck
            have HCI:=xhd hck
            have HQ:=xhd hq
            have HLA:=xhd (lt_of_block HM.out.a)
            have HLB:=xhd (lt_of_block HM.out.b)
            clear hA hB hx hy ho ho2 hck hq hbd x0 x1 y0 y1
            go_wp2_with fail
            go_region_held3 (fun V=>V.cell? ⟨w.heap.size,4,none⟩=some (.slice (some ⟨bp,op,none⟩) np cp)∧V.cell? ⟨w.heap.size+1,4,none⟩=some (.slice (some ⟨bp2,op2,none⟩) np cp2)∧V.cell? ⟨bp,op+i*2,none⟩=some (.bool pf)∧V.cell? ⟨bp,op+i*2+1,none⟩=some (.slice ai pl.length ci)∧V.cell? ⟨bp2,op2+i*2,none⟩=some (.bool qf)∧V.cell? ⟨bp2,op2+i*2+1,none⟩=some (.slice aj ql.length cj))
             (first|exact p0|exact p1)
             (first
               |(go_at_call 69
                 with_reducible refine HCI.out.mono ?_
                 rintro r V1 ⟨rfl,hb⟩
                 have HV1:=xhd (HB1.out.trans (hb.mono HB1.out.size))
                 have p1:=And.intro ((hb.cell (p:=⟨w.heap.size,4,none⟩) (by simpa using HLA.out)).trans p0.1) (And.intro ((hb.cell (p:=⟨w.heap.size+1,4,none⟩) (by simpa using HLB.out)).trans p0.2.1) (And.intro ((hb.cell (p:=⟨bp,op+i*2,none⟩) hbl).trans p0.2.2.1) (And.intro ((hb.cell (p:=⟨bp,op+i*2+1,none⟩) hbl).trans p0.2.2.2.1) (And.intro ((hb.cell (p:=⟨bp2,op2+i*2,none⟩) hbl2).trans p0.2.2.2.2.1) ((hb.cell (p:=⟨bp2,op2+i*2+1,none⟩) hbl2).trans p0.2.2.2.2.2)))))
                 clear hb))
            clear p0 p1
            cases q with
            |true=>
             have HO2:Hid (∀j (h1:j < ps.length) (h2:j < ps2.length),j < i+1→ps[j]=ps2[j]):=xhd (fun j h1 h2 hji=>by
              rcases Nat.lt_or_ge j i with h|h
              ·exact HO.out j h1 h2 h
              ·obtain rfl:j=i:=by omega
               have hq:=HQ.out
               unfold eqR at hq
               rw [HX.out,HYY.out]
               exact of_decide_eq_true hq)
             go_wp2
             go_roundw
             case rel=>exact⟨i+1,by go_num,by omega,xhd (HM.out.below HV1.out),HO2⟩
             case measure=>simp [intOf];omega
            |false=>
             have HE:Hid (A=false):=xhd (HA.out.symm.trans (by
              rw [eqS_false]
              intro h
              simp only [Prod.mk.injEq] at h
              have hq:=HQ.out
              unfold eqR at hq
              exact list_other hiL hiL2 (by rw [HX.out,HYY.out];exact of_decide_eq_false hq) h.2.2.2.2))
             go_wp2
             go_ret
             exact⟨congrArg (fun x=>Ending.returned (.bool x)) HE.out.symm,(HM.out.below HV1.out).bel⟩
           ·have HE:Hid (A=true):=xhd (HA.out.symm.trans (by
              rw [eqS_true,HEG.out,HEL.out,list_same HNP.out HNP2.out (fun j h1 h2 hj=>HO.out j h1 h2 (by omega))]))
            have ni:¬(i:Int) < np:=by omega
            obtain⟨c0,c1,c2,c3,c4⟩:=st_cells HM.out.a
            go_wp2
            go_ret
            exact⟨congrArg (fun x=>Ending.returned (.bool x)) HE.out.symm,HM.out.bel⟩
     ·have HE:Hid (A=false):=xhd (HA.out.symm.trans (by
        rw [eqS_false]
        intro h
        simp only [Prod.mk.injEq] at h
        exact enp (by rw [←HNP.out, ←HNP2.out,h.2.2.2.2])))
      have f1:((np:Int) == (np2:Int))=false:=by
       rw [beq_eq_false_iff_ne]
       omega
      have f2:((np:Int) != (np2:Int))=true:=by
       rw [bne_iff_ne]
       omega
      go_enter Tryz.func34,Tryz.ntmps34
      go_wp2
      go_ret
      exact⟨congrArg (fun x=>Ending.returned (.bool x)) HE.out.symm,HY0.out.bel⟩
    ·have HE:Hid (A=false):=xhd (HA.out.symm.trans (by
       rw [eqS_false]
       intro h
       simp only [Prod.mk.injEq] at h
       exact enl (by rw [←HNL.out, ←HNL2.out,h.2.2.2.1])))
     have f1:((nl:Int) == (nl2:Int))=false:=by
      rw [beq_eq_false_iff_ne]
      omega
     have f2:((nl:Int) != (nl2:Int))=true:=by
      rw [bne_iff_ne]
      omega
     go_enter Tryz.func34,Tryz.ntmps34
     go_wp2
     go_ret
     exact⟨congrArg (fun x=>Ending.returned (.bool x)) HE.out.symm,HY0.out.bel⟩
   ·have HE:Hid (A=false):=xhd (HA.out.symm.trans (by
      rw [eqS_false]
      intro h
      simp only [Prod.mk.injEq] at h
      exact eng (by rw [←HNG.out, ←HNG2.out,h.2.2.1])))
    have f1:((ng:Int) == (ng2:Int))=false:=by
     rw [beq_eq_false_iff_ne]
     omega
    have f2:((ng:Int) != (ng2:Int))=true:=by
     rw [bne_iff_ne]
     omega
    go_enter Tryz.func34,Tryz.ntmps34
    go_wp2
    go_ret
    exact⟨congrArg (fun x=>Ending.returned (.bool x)) HE.out.symm,HY0.out.bel⟩
  ·have HE:Hid (A=false):=xhd (HA.out.symm.trans (by
     rw [eqS_false]
     intro h
     simp only [Prod.mk.injEq] at h
     exact eg h.2.1))
   have f1:(g == g2)=false:=by
    rw [beq_eq_false_iff_ne]
    omega
   have f2:(g != g2)=true:=by
    rw [bne_iff_ne]
    omega
   go_enter Tryz.func34,Tryz.ntmps34
   go_wp2
   go_ret
   exact⟨congrArg (fun x=>Ending.returned (.bool x)) HE.out.symm,HY0.out.bel⟩
 ·have HE:Hid (A=false):=xhd (HA.out.symm.trans (by
    rw [eqS_false]
    intro h
    simp only [Prod.mk.injEq] at h
    exact ec h.1))
  have f1:(c == c2)=false:=by
   rw [beq_eq_false_iff_ne]
   omega
  have f2:(c != c2)=true:=by
   rw [bne_iff_ne]
   omega
  go_enter Tryz.func34,Tryz.ntmps34
  go_wp2
  go_ret
  exact⟨congrArg (fun x=>Ending.returned (.bool x)) HE.out.symm,HY0.out.bel⟩
end Go.Proofs.YtbnhnnccioljhaaGreatDoor
