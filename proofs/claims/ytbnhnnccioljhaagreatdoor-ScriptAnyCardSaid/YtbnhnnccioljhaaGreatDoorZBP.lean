/-
  The document's Parse of acts. (Made by gen_raprs.py.)
-/
import Derived.Test.YtbnhnnccioljhaaGreatDoorZAN
import Derived.Test.YtbnhnnccioljhaaGreatDoorZAI
import Derived.Test.YtbnhnnccioljhaaGreatDoorZAE
import Derived.Deep.RegionHeld3
import Derived.Deep.QuietTactic
import Derived.BigQuiet
import Derived.Test.YtbnhnnccioljhaaGreatDoorZAl
set_option maxRecDepth 100000
set_option maxHeartbeats 25600000
namespace Go.Proofs.YtbnhnnccioljhaaGreatDoor
open Go.RowKit
def ansA (A:Except Bad (List Ac×Nat)):List Ac×Int×Int:=match A with
 | .error e=>([],(e.1:Int),e.2)
 | .ok x=>(x.1,(x.2:Int),0)
theorem parse_ans {L:List Wd} {a:Nat} (ha:a≤L.length):parseAc L a=ansA (acsP L (L.length+1) a []):=by
 unfold parseAc
 rw [if_neg (by omega),Int.toNat_natCast]
 cases acsP L (L.length+1) a []<;>rfl
structure RaI (L:List Wd) (R:List Ac×Int×Int) (w wr:World) (c:Nat) (out:List Ac) (v:Value):Prop where
 row:ARow w.heap.size wr v out
 bel:Below w.heap.size w wr
 ans:∃f,L.length < f+c∧ansA (acsP L f c out)=R
 len:out.length≤4000
section
variable {L:List Wd} {R:List Ac×Int×Int} {w wr:World} {c:Nat} {out:List Ac} {v:Value}
theorem RaI.none (h:RaI L R w wr c out v) (hc:c < L.length) (hk:acKind L c=0):R=([],(c:Int),5):=by
 obtain⟨f,hf,hR⟩:=h.ans
 obtain⟨m,rfl⟩:∃m,f=m+1:=⟨f - 1,by omega⟩
 rw [←hR,acsP,if_neg (by omega),if_pos hk]
 rfl
theorem RaI.long (h:RaI L R w wr c out v) (hc:c < L.length) (hk:acKind L c≠0) (h4:out.length=4000):R=([],(c:Int),6):=by
 obtain⟨f,hf,hR⟩:=h.ans
 obtain⟨m,rfl⟩:∃m,f=m+1:=⟨f - 1,by omega⟩
 rw [←hR,acsP,if_neg (by omega),if_neg hk,if_pos h4]
 rfl
theorem RaI.err (h:RaI L R w wr c out v) (hc:c < L.length) (hk:acKind L c≠0) (h4:¬out.length=4000) {d:Nat} {x:Int} (he:acP L (c+1) (acKind L c)= .error (d,x)):R=([],(d:Int),x):=by
 obtain⟨f,hf,hR⟩:=h.ans
 obtain⟨m,rfl⟩:∃m,f=m+1:=⟨f - 1,by omega⟩
 rw [←hR,acsP,if_neg (by omega),if_neg hk,if_neg h4,he]
 rfl
theorem RaI.more (h:RaI L R w wr c out v) (hc:c < L.length) (hk:acKind L c≠0) (h4:¬out.length=4000) {a:Ac} {d:Nat} (he:acP L (c+1) (acKind L c)= .ok (a,d)):∃f,L.length < f+d∧ansA (acsP L f d (out++[a]))=R:=by
 obtain⟨f,hf,hR⟩:=h.ans
 obtain⟨m,rfl⟩:∃m,f=m+1:=⟨f - 1,by omega⟩
 have hg:=acP_gt he
 refine⟨m,by omega,?_⟩
 rw [←hR]
 conv=>rhs;rw [acsP,if_neg (by omega),if_neg hk,if_neg h4,he]
theorem RaI.last (h:RaI L R w wr c out v) (hle:c≤L.length) (hc:L.length≤c):R=(out,(c:Int),0):=by
 obtain⟨f,hf,hR⟩:=h.ans
 obtain⟨m,rfl⟩:∃m,f=m+1:=⟨f - 1,by omega⟩
 rw [←hR,acsP,if_pos hc]
 rfl
end
theorem RaI.below {L:List Wd} {R:List Ac×Int×Int} {w wr wr':World} {c:Nat} {out:List Ac} {v:Value} (h:RaI L R w wr c out v) (hb:Below wr.heap.size wr wr'):RaI L R w wr' c out v:=
 ⟨row_below h.row hb,h.bel.trans (hb.mono h.bel.size),h.ans,h.len⟩
structure RxB (wk wr:World) (k y0 y1 y2 y3:Int):Prop where
 act:wr.heap[wk.heap.size]?=some (.cells #[.int .i64 k, .int .i64 y0, .int .i64 y1, .int .i64 y2, .int .i64 y3] 73 (0,0))
 bel:Below wk.heap.size wk wr
theorem RxB.below {wk wr wr':World} {k y0 y1 y2 y3:Int} (h:RxB wk wr k y0 y1 y2 y3) (hb:Below wr.heap.size wr wr'):RxB wk wr' k y0 y1 y2 y3:=
 ⟨(hb.block _ (lt_of_block h.act)).trans h.act,h.bel.trans (hb.mono h.bel.size)⟩
theorem RxB.stored {wk wr:World} {k y0 y1 y2 y3 z0 z1 z2 z3:Int} (h:RxB wk wr k y0 y1 y2 y3):
  RxB wk (((((wr.setCell ⟨wk.heap.size,0,none⟩ (.int .i64 k)).setCell ⟨wk.heap.size,1,none⟩ (.int .i64 z0)).setCell ⟨wk.heap.size,2,none⟩ (.int .i64 z1)).setCell ⟨wk.heap.size,3,none⟩ (.int .i64 z2)).setCell ⟨wk.heap.size,4,none⟩ (.int .i64 z3)) k z0 z1 z2 z3:=
 ⟨act_set h.act,((((h.bel.setCell (Nat.le_refl _) _).setCell (Nat.le_refl _) _).setCell (Nat.le_refl _) _).setCell (Nat.le_refl _) _).setCell (Nat.le_refl _) _⟩
theorem acup_yes {L:List Wd} {c j:Nat} (hj:1≤j) (h:isR L c 1 (acName (j:Int))=true):acUp L c j=j:=by
 obtain⟨i,rfl⟩:∃i,j=i+1:=⟨j - 1,by omega⟩
 rw [acUp,if_pos h]
theorem acup_no {L:List Wd} {c j:Nat} (hj:1≤j) (h:isR L c 1 (acName (j:Int))=false):acUp L c j=acUp L c (j - 1):=by
 obtain⟨i,rfl⟩:∃i,j=i+1:=⟨j - 1,by omega⟩
 rw [acUp,h,Nat.add_sub_cancel]
 rfl
theorem is_there {L:List Wd} {c:Nat} (hc:c < L.length) (k:Int) (t:List By):isR L c k t=(decide (L[c].1=k)&&decide (L[c].2.1=t)):=by
 unfold isR
 rw [List.getElem?_eq_getElem hc]
theorem nums_end {L:List Wd} {n d:Nat} {ns:List Int} (hd:L.length≤d):numsP L (n+1) d ns= .error (d,5):=by
 rw [numsP,List.getElem?_eq_none hd]
theorem nums_kind {L:List Wd} {n d:Nat} {ns:List Int} (hd:d < L.length) (h:¬L[d].1=2):numsP L (n+1) d ns= .error (d,5):=by
 rw [numsP,List.getElem?_eq_getElem hd]
 simp only
 rw [if_neg h]
theorem nums_more {L:List Wd} {n d:Nat} {ns:List Int} (hd:d < L.length) (h:L[d].1=2):numsP L (n+1) d ns=numsP L n (d+1) (ns++[L[d].2.2.1]):=by
 rw [numsP,List.getElem?_eq_getElem hd]
 simp only
 rw [if_pos h]
theorem acp_err {L:List Wd} {c:Nat} {k:Int} {d:Nat} {x:Int} (h:numsP L (acMany k) c []= .error (d,x)):acP L c k= .error (d,x):=by
 unfold acP
 rw [h]
theorem acp_semi {L:List Wd} {c:Nat} {k:Int} {ns:List Int} {d:Nat} (h:numsP L (acMany k) c []= .ok (ns,d)) (hs:isR L d 3 [59]=false):acP L c k= .error (d,5):=by
 unfold acP
 rw [h]
 simp only
 rw [hs,if_neg (by simp)]
theorem acp_ok {L:List Wd} {c:Nat} {k:Int} {ns:List Int} {d:Nat} (h:numsP L (acMany k) c []= .ok (ns,d)) (hs:isR L d 3 [59]=true):acP L c k= .ok (mkAc k ns,d+1):=by
 unfold acP
 rw [h]
 simp only
 rw [if_pos hs]
theorem raparse_in (ao:Option Addr) (b off cap:Nat) (L:List Wd) (a:Nat) (w:World) (h:WArg w ao b off L) (hm:L.length≤100000) (ha:a≤L.length):
  Calls Tryz.prog 40 #[.slice ao L.length cap, .int .i64 a] w (ParseAP (parseAc L a) w):=by
 obtain⟨i0,hi0,hz0,hz1,hz2⟩:=info_parts act_info
 have HA:=xhd h
 have hR:=parse_ans ha
 obtain⟨R,hR0⟩:∃R,parseAc L a=R:=⟨_,rfl⟩
 rw [hR0] at hR ⊢
 have HST:Hid (RaI L R w w a [] (.slice none 0 0)):=xhd ⟨World.ownsRow_nil _ _ _ _,Below.refl _ _,⟨L.length+1,by omega,hR.symm⟩,Nat.zero_le _⟩
 obtain⟨n,hn⟩:∃n,L.length=n:=⟨_,rfl⟩
 have HN:=xhd hn
 rw [hn] at hm ha ⊢
 clear h hR hR0 hn
 have hg1:¬(a:Int) < 0:=by omega
 have hg2:¬(n:Int) < a:=by omega
 go_enter Tryz.func40,Tryz.ntmps40
 go_wp2_with fail
 clear hg1 hg2
 go_loopw [1,7] (fun at' v' wr=>∃(c:Nat) (out:List Ac),at'= .int .i64 c∧c≤n∧Hid (RaI L R w wr c out v')) (fun at' _ _=>n - (intOf at').toNat)
 case atStart=>exact⟨a,[],rfl,ha,HST⟩
 case round=>
  obtain⟨c,out,rfl,hc,HP⟩:=hrel
  rename World=>wo
  obtain⟨aov,capv,hv,_⟩:=ownsRow_shape HP.out.row
  subst hv
  obtain⟨mo,hmo⟩:∃m,out.length=m:=⟨_,rfl⟩
  have HMO:=xhd hmo
  have hl4:=HP.out.len
  rw [hmo] at HP hl4 ⊢
  clear hmo
  by_cases hcn:c < n
  ·have hcL:c < L.length:=by rw [HN.out];exact hcn
   have i1:(c:Int) < n:=by omega
   have i0':(0:Int)≤c:=by omega
   have HWA:=xhd (HA.out.below HP.out.bel)
   obtain⟨rfl,hbl⟩:=HWA.out.at_ (by omega)
   have hcc:=fun V (hV:Below wo.heap.size wo V)=>((HWA.out.below hV).cells c hcL)
   have hisr:=fun t=>is_there hcL 1 t
   obtain⟨⟨k1,t1,n1,p1⟩,hx⟩:∃x,L[c]=x:=⟨_,rfl⟩
   simp only [hx] at hcc hisr
   obtain⟨tb,htb⟩:∃tb:ByteArray,⟨t1.toArray⟩=tb:=⟨_,rfl⟩
   simp only [htb] at hcc
   have hteq:=fun s=>text_eqb t1 s
   simp only [htb] at hteq
   have HCC:=xhd (fun V hV=>(⟨(hcc V hV).1,(hcc V hV).2.1⟩:V.cell? ⟨b,off+c*4,none⟩=some (.int .i64 k1)∧V.cell? ⟨b,off+c*4+1,none⟩=some (.string tb)))
   have HIR:=xhd hisr
   have HTE:=xhd hteq
   clear hcc hisr hx htb hteq
   go_wp2_with fail
   go_loopw [8,9] (fun k8 k9 wr=>∃j:Nat,1≤j∧j≤9∧k9= .int .i64 j∧k8= .int .i64 (acUp L c (j - 1))∧Hid (Below wo.heap.size wo wr)) (fun _ k9 _=>9 - (intOf k9).toNat)
   case atStart=>exact⟨1,by omega,by omega,rfl,rfl,Below.refl _ _⟩
   case round=>
    obtain⟨j,hj1,hj9,rfl,rfl,HB2⟩:=hrel
    rename World=>wk
    obtain⟨x0,x1⟩:=HCC.out wk HB2.out
    by_cases hj:j≤8
    ·have hnm:=fun W=>raname_any (j:Int) W
     have hte:=HTE.out (acName (j:Int))
     obtain⟨tx,htx⟩:∃tx:ByteArray,⟨(acName (j:Int)).toArray⟩=tx:=⟨_,rfl⟩
     simp only [htx] at hnm hte
     have HNM:=xhd hnm
     have hjw:IntKind.i64.wrap ((j:Int)+1)=(j:Int)+1:=by rw [IntKind.wrap_i64];omega
     obtain⟨kup,hkup⟩:∃kup,acUp L c (j - 1)=kup:=⟨_,rfl⟩
     have HKUP:=xhd hkup
     rw [hkup]
     clear hnm htx hkup
     by_cases hk1:k1=1
     ·have hir:=HIR.out (acName (j:Int))
      rw [decide_eq_true hk1,Bool.true_and] at hir
      subst hk1
      have HBD:Hid (Below wk.heap.size wk wk.drew):=xhd (Below.refl _ wk).drew
      have s0:=HCC.out wk.drew (HB2.out.trans (HBD.out.mono HB2.out.size))
      have HBW:=xhd (fun V (hV:Below wk.heap.size wk V)=>HCC.out V (HB2.out.trans (hV.mono HB2.out.size)))
      cases hd:decide (t1=acName (j:Int)) with
      |true=>
       rw [hd] at hte hir
       have HUP:=xhd (acup_yes hj1 hir)
       clear hd hir
       go_wp2_with fail
       go_region_held3 (fun V=>V.cell? ⟨b,off+c*4,none⟩=some (.int .i64 1)∧V.cell? ⟨b,off+c*4+1,none⟩=some (.string tb))
        (first|exact s0|exact s1)
        (first
          |(go_at_call 54
            with_reducible refine (HNM.out _).mono ?_
            rintro r V1 ⟨rfl,hb⟩
            have hbx:=HBD.out.trans (hb.mono HBD.out.size)
            have HBX:=xhd hbx
            have s1:=HBW.out _ hbx
            clear hb hbx))
       clear s0 s1
       go_wp2
       go_roundw
       case rel=>exact⟨j+1,by omega,by omega,by go_num,by rw [Nat.add_sub_cancel,HUP.out],xhd (HB2.out.trans (HBX.out.mono HB2.out.size))⟩
       case measure=>simp [intOf];omega
      |false=>
       rw [hd] at hte hir
       have HUP:=xhd (acup_no hj1 hir)
       clear hd hir
       go_wp2_with fail
       go_region_held3 (fun V=>V.cell? ⟨b,off+c*4,none⟩=some (.int .i64 1)∧V.cell? ⟨b,off+c*4+1,none⟩=some (.string tb))
        (first|exact s0|exact s1)
        (first
          |(go_at_call 54
            with_reducible refine (HNM.out _).mono ?_
            rintro r V1 ⟨rfl,hb⟩
            have hbx:=HBD.out.trans (hb.mono HBD.out.size)
            have HBX:=xhd hbx
            have s1:=HBW.out _ hbx
            clear hb hbx))
       clear s0 s1
       go_wp2
       go_roundw
       case rel=>exact⟨j+1,by omega,by omega,by go_num,by rw [Nat.add_sub_cancel,HUP.out,HKUP.out],xhd (HB2.out.trans (HBX.out.mono HB2.out.size))⟩
       case measure=>simp [intOf];omega
     ·have hir:=HIR.out (acName (j:Int))
      rw [decide_eq_false hk1,Bool.false_and] at hir
      have HUP:=xhd (acup_no hj1 hir)
      have hk1b:(k1 == 1)=false:=by simpa using hk1
      clear hir hte
      go_wp2_with fail
      go_quiet (fail)
      go_wp2
      go_roundw
      case rel=>exact⟨j+1,by omega,by omega,by go_num,by rw [Nat.add_sub_cancel,HUP.out,HKUP.out],xhd (below_drewN HB2.out nq)⟩
      case measure=>simp [intOf];omega
    ·have hjj:j=9:=by omega
     subst hjj
     clear hj hj1 hj9
     have HP2:=xhd (HP.out.below HB2.out)
     obtain⟨kn,hkn⟩:∃kn,acUp L c (9 - 1)=kn:=⟨_,rfl⟩
     have HKN:Hid (acKind L c=kn):=hkn
     have hkle:kn≤8:=by rw [←hkn];exact acup_le L c 8
     rw [hkn]
     clear hkn x0 x1
     by_cases hk0:kn=0
     ·have HE:=xhd (HP.out.none hcL (HKN.out.trans hk0))
      subst hk0
      go_wp2
      go_ret3
      rw [HE.out]
      exact⟨_,rfl,World.ownsRow_nil _ _ _ _,HP2.out.bel⟩
     ·have hknb:((kn:Int) == 0)=false:=by simp;omega
      have hkz:¬acKind L c=0:=by rw [HKN.out];exact hk0
      by_cases h4:mo=4000
      ·have HE:=xhd (HP.out.long hcL hkz (HMO.out.trans h4))
       subst h4
       go_wp2
       go_ret3
       rw [HE.out]
       exact⟨_,rfl,World.ownsRow_nil _ _ _ _,HP2.out.bel⟩
      ·have h4b:((mo:Int) == 4000)=false:=by simp;omega
       have h4o:¬out.length=4000:=by rw [HMO.out];exact h4
       have herr:=fun (d:Nat) (x:Int) he=>HP.out.err hcL hkz h4o (d:=d) (x:=x) he
       have hmore:=fun (x:Ac) (d:Nat) he=>HP.out.more hcL hkz h4o (a:=x) (d:=d) he
       rw [HKN.out] at herr hmore
       have hm4:=many_four (kn:Int)
       have hmy:=fun W=>ramany_any (kn:Int) (by omega) (by omega) W
       obtain⟨m,hm'⟩:∃m,acMany (kn:Int)=m:=⟨_,rfl⟩
       have HMM:=xhd hm'
       rw [hm'] at hm4
       simp only [hm'] at hmy
       have HERR:=xhd herr
       have HMORE:=xhd hmore
       have HMY:=xhd hmy
       have hcw:IntKind.i64.wrap ((c:Int)+1)=(c:Int)+1:=by rw [IntKind.wrap_i64];omega
       obtain⟨G,hG⟩:∃G,numsP L m (c+1) []=G:=⟨_,rfl⟩
       have HG0:=xhd hG
       have HBX0:Hid (RxB wk (wk.alloc (.cells #[.int .i64 (kn:Nat), .int .i64 0, .int .i64 0, .int .i64 0, .int .i64 0] 73)) (kn:Nat) 0 0 0 0):=xhd ⟨heap_alloc_new wk _,(Below.refl _ wk).alloc (Nat.le_refl _) _⟩
       clear herr hmore hm' hmy hG hkz
       go_wp2_with fail
       go_loopw [1,11] (fun at' i' wr=>∃(d i:Nat) (ns:List Int) (y0 y1 y2 y3:Int),at'= .int .i64 d∧i'= .int .i64 i∧i≤m∧d≤n∧c+1≤d∧Hid (RxB wk wr (kn:Nat) y0 y1 y2 y3)∧Hid (ns.length=i∧mkAc (kn:Int) ns=((kn:Int),y0,y1,y2,y3))∧Hid (numsP L (m - i) d ns=G)) (fun _ i' _=>m - (intOf i').toNat)
       case atStart=>exact⟨c+1,0,[],0,0,0,0,by go_num,rfl,Nat.zero_le _,by omega,by omega,HBX0,xhd ⟨rfl,rfl⟩,HG0⟩
       case round=>
        obtain⟨d,i,ns,y0,y1,y2,y3,rfl,rfl,hi,hdn,hcd,HX,HNS,HG⟩:=hrel
        rename World=>wr
        obtain⟨q0,q1,q2,q3,q4⟩:=act_cells HX.out.act
        by_cases him:i < m
        ·have j1:(i:Int) < m:=by omega
         have jw:IntKind.i64.wrap ((i:Int)+1)=(i:Int)+1:=by rw [IntKind.wrap_i64];omega
         have hg:=HG.out
         rw [show m - i=(m - (i+1))+1 by omega] at hg
         by_cases hdl:d < n
         ·have hdL:d < L.length:=by rw [HN.out];exact hdl
          have d1:(d:Int) < n:=by omega
          have d0:(0:Int)≤d:=by omega
          have hdw:IntKind.i64.wrap ((d:Int)+1)=(d:Int)+1:=by rw [IntKind.wrap_i64];omega
          have hcx:=fun V (hV:Below w.heap.size w V)=>(HA.out.below hV).cells d hdL
          have hkd:=fun (h:¬L[d].1=2)=>nums_kind (n:=m - (i+1)) (ns:=ns) hdL h
          have hmr:=fun (h:L[d].1=2)=>nums_more (n:=m - (i+1)) (ns:=ns) hdL h
          obtain⟨⟨k3,t3,n3,p3⟩,hx⟩:∃x,L[d]=x:=⟨_,rfl⟩
          rw [hx] at hkd hmr
          simp only [hx] at hcx
          simp only at hkd hmr
          have HCX:=xhd (fun V hV=>(⟨(hcx V hV).1,(hcx V hV).2.2.1⟩:V.cell? ⟨b,off+d*4,none⟩=some (.int .i64 k3)∧V.cell? ⟨b,off+d*4+2,none⟩=some (.int .i64 n3)))
          clear hx hcx
          by_cases hk2:k3=2
          ·rw [hmr hk2] at hg
           have HG2:=xhd hg
           subst hk2
           obtain⟨z0,z1,z2,z3,hz⟩:∃z0 z1 z2 z3,mkAc (kn:Int) (ns++[n3])=((kn:Int),z0,z1,z2,z3):=⟨_,_,_,_,rfl⟩
           have hpt:=fun W=>raput_any (kn:Int) ns i HNS.out.1 (by omega) n3 W
           rw [HNS.out.2,hz] at hpt
           unfold acV at hpt
           simp only at hpt
           have HPT:=xhd hpt
           have HNS2:Hid ((ns++[n3]).length=i+1∧mkAc (kn:Int) (ns++[n3])=((kn:Int),z0,z1,z2,z3)):=xhd ⟨by rw [List.length_append,List.length_singleton,HNS.out.1],hz⟩
           have hmix:Tryz.prog.follows .mixedOrders=true:=by kernel_rfl
           clear hg hkd hmr hz hpt q0 q1 q2 q3 q4
           go_wp2_with fail
           with_reducible refine (HMY.out _).mono ?_
           rintro e w2 ⟨rfl,hb⟩
           have HX2:=xhd (HX.out.below hb)
           have hbw:Below w.heap.size w w2:=HP2.out.bel.trans (HX2.out.bel.mono HP2.out.bel.size)
           have HBWW:=xhd hbw
           obtain⟨u0,u2⟩:=HCX.out w2 hbw
           obtain⟨q0,q1,q2,q3,q4⟩:=act_cells HX2.out.act
           clear hb hbw
           go_wp2_with fail
           refine wp_region_noPanic ?_
           refine wp_region_last (fun V=>V.cell? ⟨wk.heap.size,0,none⟩=some (.int .i64 (kn:Nat))∧V.cell? ⟨wk.heap.size,1,none⟩=some (.int .i64 y0)∧V.cell? ⟨wk.heap.size,2,none⟩=some (.int .i64 y1)∧V.cell? ⟨wk.heap.size,3,none⟩=some (.int .i64 y2)∧V.cell? ⟨wk.heap.size,4,none⟩=some (.int .i64 y3)∧V.cell? ⟨b,off+d*4+2,none⟩=some (.int .i64 n3)) 8 hmix ⟨q0,q1,q2,q3,q4,u2⟩ (fun hS0=>?_)
           refine wpAnyE_take (i:=0) (v:=?_) rfl (by kernel_rfl) (by kernel_rfl) (fun _ _ _ h=>h) (by kernel_rfl) (by kernel_rfl) (Or.inl ⟨by rfl,?hy⟩) (by assumption) ?_
           case hy=>
            intro w hSw
            (try dsimp only at hSw)
            obtain⟨s0,s1,s2,s3,s4,s5⟩:=hSw
            go_simp
            try with_reducible rfl
           try simp only [xga];try simp only [xgs];try simp only [xgz];try simp only [Act.put];try simp only [xsa];try simp only [xss];try simp only [xsz]
           refine wpAnyE_take (i:=1) (v:=?_) rfl (by kernel_rfl) (by kernel_rfl) (fun _ _ _ h=>h) (by kernel_rfl) (by kernel_rfl) (Or.inl ⟨by rfl,?hy⟩) (by assumption) ?_
           case hy=>
            intro w hSw
            (try dsimp only at hSw)
            obtain⟨s0,s1,s2,s3,s4,s5⟩:=hSw
            go_simp
            try with_reducible rfl
           try simp only [xga];try simp only [xgs];try simp only [xgz];try simp only [Act.put];try simp only [xsa];try simp only [xss];try simp only [xsz]
           refine wpAnyE_take (i:=2) (v:=?_) rfl (by kernel_rfl) (by kernel_rfl) (fun _ _ _ h=>h) (by kernel_rfl) (by kernel_rfl) (Or.inl ⟨by rfl,?hy⟩) (by assumption) ?_
           case hy=>
            intro w hSw
            (try dsimp only at hSw)
            obtain⟨s0,s1,s2,s3,s4,s5⟩:=hSw
            go_simp
            try with_reducible rfl
           try simp only [xga];try simp only [xgs];try simp only [xgz];try simp only [Act.put];try simp only [xsa];try simp only [xss];try simp only [xsz]
           refine wpAnyE_take (i:=3) (v:=?_) rfl (by kernel_rfl) (by kernel_rfl) (fun _ _ _ h=>h) (by kernel_rfl) (by kernel_rfl) (Or.inl ⟨by rfl,?hy⟩) (by assumption) ?_
           case hy=>
            intro w hSw
            (try dsimp only at hSw)
            obtain⟨s0,s1,s2,s3,s4,s5⟩:=hSw
            go_simp
            try with_reducible rfl
           try simp only [xga];try simp only [xgs];try simp only [xgz];try simp only [Act.put];try simp only [xsa];try simp only [xss];try simp only [xsz]
           refine wpAnyE_take (i:=4) (v:=?_) rfl (by kernel_rfl) (by kernel_rfl) (fun _ _ _ h=>h) (by kernel_rfl) (by kernel_rfl) (Or.inl ⟨by rfl,?hy⟩) (by assumption) ?_
           case hy=>
            intro w hSw
            (try dsimp only at hSw)
            obtain⟨s0,s1,s2,s3,s4,s5⟩:=hSw
            go_simp
            try with_reducible rfl
           try simp only [xga];try simp only [xgs];try simp only [xgz];try simp only [Act.put];try simp only [xsa];try simp only [xss];try simp only [xsz]
           refine wpAnyE_take (i:=5) (v:=?_) rfl (by kernel_rfl) (by kernel_rfl) (fun _ _ _ h=>h) (by kernel_rfl) (by kernel_rfl) (Or.inl ⟨by rfl,?hy⟩) (by assumption) ?_
           case hy=>
            intro w hSw
            (try dsimp only at hSw)
            obtain⟨s0,s1,s2,s3,s4,s5⟩:=hSw
            go_simp
            try with_reducible rfl
           try simp only [xga];try simp only [xgs];try simp only [xgz];try simp only [Act.put];try simp only [xsa];try simp only [xss];try simp only [xsz]
           refine wpAnyE_take (i:=6) (v:=?_) rfl (by kernel_rfl) (by kernel_rfl) (fun _ _ _ h=>h) (by kernel_rfl) (by kernel_rfl) (Or.inl ⟨by rfl,?hy⟩) (by assumption) ?_
           case hy=>
            intro w hSw
            (try dsimp only at hSw)
            obtain⟨s0,s1,s2,s3,s4,s5⟩:=hSw
            go_simp
            try with_reducible rfl
           try simp only [xga];try simp only [xgs];try simp only [xgz];try simp only [Act.put];try simp only [xsa];try simp only [xss];try simp only [xsz]
           refine wpAnyE_ready (rs:=[7]) (by kernel_rfl) (by simp) ?_
           refine ReadyE.cons rfl (fun K' hK=>?_) ReadyE.nil
           go_simp
           with_reducible refine (HPT.out _).mono ?_
           rintro e V3 ⟨rfl,hb⟩
           have hb3:Below w2.heap.size w2 V3:=((Below.refl _ w2).drew).trans hb
           have HX3:=xhd (HX2.out.below hb3)
           have u3:=(HCX.out V3 (HBWW.out.trans (hb3.mono HBWW.out.size))).2
           clear q0 q1 q2 q3 q4 u0 u2
           obtain⟨q0,q1,q2,q3,q4⟩:=act_cells HX3.out.act
           have f0:=not_frozen HX3.out.act 0
           have f1:=not_frozen HX3.out.act 1
           have f2:=not_frozen HX3.out.act 2
           have f3:=not_frozen HX3.out.act 3
           have f4:=not_frozen HX3.out.act 4
           clear hb hb3
           go_wp2_with fail
           refine hK.out _ _ (.inr ?_) ?_
           ·exact⟨q0,q1,q2,q3,q4,u3⟩
           clear hK K'
           try simp only [xga];try simp only [xgs];try simp only [xgz];try simp only [Act.put];try simp only [xsa];try simp only [xss];try simp only [xsz]
           refine wpAnyE_ready (rs:=[8]) (by kernel_rfl) (by simp) ?_
           refine ReadyE.cons rfl (fun K' hK=>?_) ReadyE.nil
           go_simp
           refine hK.out _ _ (.inl rfl) ?_
           clear hK K'
           refine wpAnyE_done (by kernel_rfl) ?_ _
           refine NoPanic.normal ?_
           try simp only [xga];try simp only [xgs];try simp only [xgz];try simp only [Act.put];try simp only [xsa];try simp only [xss];try simp only [xsz]
           have HX4:=xhd (HX3.out.stored (z0:=z0) (z1:=z1) (z2:=z2) (z3:=z3))
           go_wp2
           refine⟨?_,?measure⟩
           (repeat apply Exists.intro)
           refine⟨?rel,rfl⟩
           case rel=>exact⟨d+1,i+1,ns++[n3],z0,z1,z2,z3,by go_num,by go_num,by omega,by omega,by omega,HX4,HNS2,HG2⟩
           case measure=>simp [intOf];omega
          ·rw [hkd hk2] at hg
           have HE:=xhd (HERR.out d 5 (acp_err (by rw [HMM.out,HG0.out];exact hg.symm)))
           have hk2b:(k3 != 2)=true:=by simpa using hk2
           clear hg hkd hmr q0 q1 q2 q3 q4
           go_wp2_with fail
           with_reducible refine (HMY.out _).mono ?_
           rintro e w2 ⟨rfl,hb⟩
           have HX2:=xhd (HX.out.below hb)
           have hbw:Below w.heap.size w w2:=HP2.out.bel.trans (HX2.out.bel.mono HP2.out.bel.size)
           have HBWW:=xhd hbw
           obtain⟨u0,u2⟩:=HCX.out w2 hbw
           clear hb hbw
           go_wp2
           go_ret3
           rw [HE.out]
           exact⟨_,rfl,World.ownsRow_nil _ _ _ _,HBWW.out⟩
         ·have hdl2:n≤d:=by omega
          have hdg:(n:Int)≤d:=by omega
          rw [nums_end (by rw [HN.out];exact hdl2)] at hg
          have HE:=xhd (HERR.out d 5 (acp_err (by rw [HMM.out,HG0.out];exact hg.symm)))
          clear hg q0 q1 q2 q3 q4
          go_wp2_with fail
          with_reducible refine (HMY.out _).mono ?_
          rintro e w2 ⟨rfl,hb⟩
          have HX2:=xhd (HX.out.below hb)
          have HBWW:Hid (Below w.heap.size w w2):=xhd (HP2.out.bel.trans (HX2.out.bel.mono HP2.out.bel.size))
          clear hb
          go_wp2
          go_ret3
          rw [HE.out]
          exact⟨_,rfl,World.ownsRow_nil _ _ _ _,HBWW.out⟩
        ·obtain rfl:i=m:=by omega
         have ni:¬(i:Int) < i:=by omega
         have hg:=HG.out
         rw [Nat.sub_self,numsP] at hg
         have HGK:Hid (numsP L (acMany (kn:Int)) (c+1) []= .ok (ns,d)):=xhd (by rw [HMM.out,HG0.out];exact hg.symm)
         clear hg q0 q1 q2 q3 q4
         by_cases hdl:d < n
         ·have hdL:d < L.length:=by rw [HN.out];exact hdl
          have d1:(d:Int) < n:=by omega
          have d0:(0:Int)≤d:=by omega
          have hdw:IntKind.i64.wrap ((d:Int)+1)=(d:Int)+1:=by rw [IntKind.wrap_i64];omega
          have hcx:=fun V (hV:Below w.heap.size w V)=>(HA.out.below hV).cells d hdL
          have his:=is_there hdL 3 [59]
          obtain⟨⟨k3,t3,n3,p3⟩,hx⟩:∃x,L[d]=x:=⟨_,rfl⟩
          rw [hx] at his
          simp only [hx] at hcx
          simp only at his
          obtain⟨tz,htz⟩:∃tz:ByteArray,⟨t3.toArray⟩=tz:=⟨_,rfl⟩
          simp only [htz] at hcx
          have htl:tz.toList=t3:=by rw [Lib.toList_data, ←htz]
          have HCX:=xhd (fun V hV=>(⟨(hcx V hV).1,(hcx V hV).2.1⟩:V.cell? ⟨b,off+d*4,none⟩=some (.int .i64 k3)∧V.cell? ⟨b,off+d*4+1,none⟩=some (.string tz)))
          clear hx hcx htz
          by_cases hk3:k3=3
          ·by_cases ht3:t3=[59]
           ·rw [decide_eq_true hk3,decide_eq_true ht3] at his
            have hacp:=acp_ok HGK.out his
            rw [HNS.out.2] at hacp
            have HMR:=xhd (HMORE.out _ _ hacp)
            have hq1:(tz.toList == [59])=true:=by rw [htl,ht3];rfl
            have hq2:(tz.toList != [59])=false:=by rw [htl,ht3];rfl
            have hq3:tz.toList=[59]:=by rw [htl,ht3]
            subst hk3
            clear his hacp htl ht3
            go_wp2_with fail
            with_reducible refine (HMY.out _).mono ?_
            rintro e w2 ⟨rfl,hb⟩
            have HX2:=xhd (HX.out.below hb)
            have hbw:Below w.heap.size w w2:=HP2.out.bel.trans (HX2.out.bel.mono HP2.out.bel.size)
            have HBWW:=xhd hbw
            obtain⟨u0,u1⟩:=HCX.out w2 hbw
            obtain⟨q0,q1,q2,q3,q4⟩:=act_cells HX2.out.act
            have HROW:=xhd (row_below HP2.out.row HX2.out.bel)
            clear hb hbw
            go_wp2_with (at_builtin;refine wpList_append_own _ rfl _ _ 27 rfl w.heap.size 73 i0 (.agg #[.int .i64 0, .int .i64 0, .int .i64 0, .int .i64 0, .int .i64 0]) 5 40 Tryz.underlying27 hi0 hz0 hz1 hz2 rfl (by decide) _ _ _ rfl (row_below HROW.out ((Below.refl _ _).alloc (Nat.le_refl _) _)) ⟨_,0,none⟩ 1 1 [.int .i64 (kn:Nat), .int .i64 y0, .int .i64 y1, .int .i64 y2, .int .i64 y3] rfl rfl ?c1 ?c2 ?c3 ?c4 ?c5 ?_)
            case c1=>exact act_at _ _ _ _ _ _
            case c2=>exact acC_one ((kn:Int),y0,y1,y2,y3)
            case c3=>(have:=HMO.out;unfold maxLen;omega)
            case c4=>(have:=HMO.out;omega)
            case c5=>exact Nat.le_trans HBWW.out.size (by simp)
            intro v' w6 hown hgrow _
            obtain⟨ao4,cap4,hv4,_⟩:=ownsRow_shape hown
            subst hv4
            have HP6:Hid (RaI L R w w6 (d+1) (out++[((kn:Int),y0,y1,y2,y3)]) (.slice ao4 (out.length+1) cap4)):=xhd (by
             refine⟨?_,?_,HMR.out,by rw [List.length_append,List.length_singleton,HMO.out];omega⟩
             ·unfold ARow
              rw [acsC_snoc,List.length_append,List.length_singleton]
              exact hown
             ·exact (HBWW.out.alloc HBWW.out.size (.cells #[.int .i64 (kn:Nat), .int .i64 y0, .int .i64 y1, .int .i64 y2, .int .i64 y3] 73)).trans (app_below (Below.refl _ _) (Nat.le_trans HBWW.out.size (by simp)) (Nat.le_refl _) (row_below HROW.out ((Below.refl _ w2).alloc (Nat.le_refl _) (.cells #[.int .i64 (kn:Nat), .int .i64 y0, .int .i64 y1, .int .i64 y2, .int .i64 y3] 73))) hgrow))
            clear hown hgrow
            go_wp2
            go_roundw
            case rel=>exact⟨d+1,_,by go_num,by omega,HP6⟩
            case measure=>simp [intOf];omega
           ·rw [decide_eq_false ht3,Bool.and_false] at his
            have HE:=xhd (HERR.out d 5 (acp_semi HGK.out his))
            have hq3:¬tz.toList=[59]:=by rw [htl];exact ht3
            have hq1:(tz.toList == [59])=false:=by simpa using hq3
            have hq2:(tz.toList != [59])=true:=by simpa using hq3
            subst hk3
            clear his htl ht3
            go_wp2_with fail
            with_reducible refine (HMY.out _).mono ?_
            rintro e w2 ⟨rfl,hb⟩
            have HX2:=xhd (HX.out.below hb)
            have hbw:Below w.heap.size w w2:=HP2.out.bel.trans (HX2.out.bel.mono HP2.out.bel.size)
            have HBWW:=xhd hbw
            obtain⟨u0,u1⟩:=HCX.out w2 hbw
            clear hb hbw
            go_wp2
            go_ret3
            rw [HE.out]
            exact⟨_,rfl,World.ownsRow_nil _ _ _ _,HBWW.out⟩
          ·rw [decide_eq_false hk3,Bool.false_and] at his
           have HE:=xhd (HERR.out d 5 (acp_semi HGK.out his))
           have hk3b:(k3 != 3)=true:=by simpa using hk3
           clear his htl
           go_wp2_with fail
           with_reducible refine (HMY.out _).mono ?_
           rintro e w2 ⟨rfl,hb⟩
           have HX2:=xhd (HX.out.below hb)
           have hbw:Below w.heap.size w w2:=HP2.out.bel.trans (HX2.out.bel.mono HP2.out.bel.size)
           have HBWW:=xhd hbw
           obtain⟨u0,u1⟩:=HCX.out w2 hbw
           clear hb hbw
           go_wp2
           go_ret3
           rw [HE.out]
           exact⟨_,rfl,World.ownsRow_nil _ _ _ _,HBWW.out⟩
         ·have hdl2:n≤d:=by omega
          have hdg:(n:Int)≤d:=by omega
          have HE:=xhd (HERR.out d 5 (acp_semi HGK.out (is_empty (by rw [HN.out];exact hdl2))))
          go_wp2_with fail
          with_reducible refine (HMY.out _).mono ?_
          rintro e w2 ⟨rfl,hb⟩
          have HX2:=xhd (HX.out.below hb)
          have HBWW:Hid (Below w.heap.size w w2):=xhd (HP2.out.bel.trans (HX2.out.bel.mono HP2.out.bel.size))
          clear hb
          go_wp2
          go_ret3
          rw [HE.out]
          exact⟨_,rfl,World.ownsRow_nil _ _ _ _,HBWW.out⟩
  ·have hge:n≤c:=by omega
   have HE:=xhd (HP.out.last (by rw [HN.out];exact hc) (by rw [HN.out];exact hge))
   have ni:¬(c:Int) < n:=by omega
   have HROW:Hid (ARow w.heap.size wo (.slice aov mo capv) out):=xhd HP.out.row
   go_wp2
   go_ret3
   rw [HE.out]
   exact⟨_,rfl,HROW.out,HP.out.bel⟩
theorem raparse_any (ao:Option Addr) (b off cap:Nat) (L:List Wd) (at_:Int) (w:World) (h:WArg w ao b off L) (hm:L.length≤100000):
  Calls Tryz.prog 40 #[.slice ao L.length cap, .int .i64 at_] w (ParseAP (parseAc L at_) w):=by
 by_cases h0:at_ < 0
 ·have e:parseAc L at_=([],0,5):=by unfold parseAc;rw [if_pos (.inl h0)]
  rw [e]
  clear e h hm
  go_enter Tryz.func40,Tryz.ntmps40
  go_wp2
  go_ret3
  exact⟨_,rfl,World.ownsRow_nil _ _ _ _,Below.refl _ _⟩
 ·by_cases h1:(L.length:Int) < at_
  ·have e:parseAc L at_=([],0,5):=by unfold parseAc;rw [if_pos (.inr h1)]
   rw [e]
   obtain⟨n,hn⟩:∃n,L.length=n:=⟨_,rfl⟩
   rw [hn] at h1 ⊢
   clear e h hm hn
   go_enter Tryz.func40,Tryz.ntmps40
   go_wp2
   go_ret3
   exact⟨_,rfl,World.ownsRow_nil _ _ _ _,Below.refl _ _⟩
  ·obtain⟨a,rfl⟩:∃a:Nat,at_=a:=⟨at_.toNat,by omega⟩
   exact raparse_in ao b off cap L a w h hm (by omega)
end Go.Proofs.YtbnhnnccioljhaaGreatDoor
