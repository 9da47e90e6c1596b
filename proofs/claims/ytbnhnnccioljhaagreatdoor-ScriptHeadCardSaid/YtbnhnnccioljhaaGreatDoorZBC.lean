/-
  The document's Parse, forever. (Made by gen_parse.py.)
-/
import Derived.Test.YtbnhnnccioljhaaGreatDoorZAC
import Derived.Test.YtbnhnnccioljhaaGreatDoorZAl
set_option maxRecDepth 100000
set_option maxHeartbeats 25600000
namespace Go.Proofs.YtbnhnnccioljhaaGreatDoor
open Go.RowKit
theorem rparse_t (ao:Option Addr) (b off cap:Nat) (L:List Wd) (a:Nat) (w:World) (h:WArg w ao b off L) (hm:L.length≤100000) (ha:a≤L.length) (h1:isR L a 1 progB=true) (h2:isR L (a+1) 1 foreverB=true):
  Calls Tryz.prog 80 #[.slice ao L.length cap, .int .i64 a] w (ParseP (parseR L a) w):=by
 obtain⟨i0,hi0,hz0,hz1,hz2⟩:=info_parts op_info
 have HA:=xhd h
 have halt:=is_lt h1
 have ho:openR L (a+1)=(true,a+1+1):=by unfold openR;rw [h2];rfl
 have ha1:a+1+1≤L.length:=by
  have:=is_lt h2
  omega
 obtain⟨n,hn⟩:∃n,L.length=n:=⟨_,rfl⟩
 have HN:=xhd hn
 have his:=fun a k s W (hW:WArg W ao b off L)=>is_any ao b off cap L a k s W hW hm
 simp only [hn] at his
 have HIS:=xhd his
 obtain⟨R,hR⟩:∃R,parseR L a=R:=⟨_,rfl⟩
 rw [hR]
 rw [hn] at hm ha halt ha1 ⊢
 clear h his
 have hg1:¬(a:Int) < 0:=by omega
 have hg2:¬(n:Int) < a:=by omega
 have his1:=fun W hW=>HIS.out a 1 ⟨#[112,114,111,103]⟩ W hW
 simp only [h1] at his1
 have HI1:=xhd his1
 have his2:=fun W hW=>HIS.out (a+1) 1 ⟨#[102,111,114,101,118,101,114]⟩ W hW
 simp only [h2,Int.natCast_add,Int.cast_ofNat_Int] at his2
 have HI2:=xhd his2
 clear his1 his2
 have HST:=xhd (start_facts w true)
 have HSTF:=xhd (start_facts w false)
 cases h3:isR L (a+1+1) 3 [123] with
 |false=>
  have he:=hR.symm.trans (parse_open (by rw [hn];exact ha) h1 ho h3)
  simp only [Int.natCast_add,Int.cast_ofNat_Int] at he
  have HE:=xhd he
  clear he
  have his3:=fun W hW=>HIS.out (a+1+1) 3 ⟨#[123]⟩ W hW
  simp only [h3,Int.natCast_add,Int.cast_ofNat_Int] at his3
  have HI3:=xhd his3
  clear hR hn h1 h2 h3 ho his3
  go_enter Tryz.func80,Tryz.ntmps80
  go_wp2_with fail
  with_reducible refine (HI1.out _ (HA.out.below HSTF.out.2.2.1)).mono ?_
  rintro e w1 ⟨rfl,rfl⟩
  go_wp2_with fail
  with_reducible refine (HI2.out _ (HA.out.below HSTF.out.2.2.1)).mono ?_
  rintro e w1 ⟨rfl,rfl⟩
  go_wp2_with fail
  with_reducible refine (HI3.out _ (HA.out.below HST.out.2.2.1)).mono ?_
  rintro e w1 ⟨rfl,rfl⟩
  go_wp2
  refine bodyPost_ret (prg_result2 rfl rfl rfl rfl HST.out.1) rfl ?_
  exact parse_bad HE.out HST.out.2.2.1
 |true=>
  have HX0:=xhd (hR.symm.trans (parse_ops (by rw [hn];exact ha) h1 ho h3))
  have ha2:=is_lt h3
  rw [hn] at ha2
  have his3:=fun W hW=>HIS.out (a+1+1) 3 ⟨#[123]⟩ W hW
  simp only [h3,Int.natCast_add,Int.cast_ofNat_Int] at his3
  have HI3:=xhd his3
  clear hR hn h1 h2 h3 ho his3
  go_enter Tryz.func80,Tryz.ntmps80
  go_wp2_with fail
  with_reducible refine (HI1.out _ (HA.out.below HSTF.out.2.2.1)).mono ?_
  rintro e w1 ⟨rfl,rfl⟩
  go_wp2_with fail
  with_reducible refine (HI2.out _ (HA.out.below HSTF.out.2.2.1)).mono ?_
  rintro e w1 ⟨rfl,rfl⟩
  go_wp2_with fail
  with_reducible refine (HI3.out _ (HA.out.below HST.out.2.2.1)).mono ?_
  rintro e w1 ⟨rfl,rfl⟩
  go_wp2_with fail
  clear HI1 HI2 HI3 hg1 hg2
  go_loopw [1] (fun at' wr=>∃(c:Nat) (ops:List Opn) (v:Value),at'= .int .i64 c∧c≤n∧Hid (PInv L n true R w wr c ops v)) (fun at' _=>n - (intOf at').toNat)
  case atStart=>exact⟨a+1+1+1,[], .slice none 0 0,by go_num,by omega,PInv.start HX0.out⟩
  case round=>
   obtain⟨c,ops,v,rfl,hc,HP⟩:=hrel
   rename World=>wo
   have HWA:=xhd (HA.out.below HP.out.bel)
   have hsz:=HP.out.siz
   have hl12:=HP.out.len
   obtain⟨p0,p1⟩:=two_cells HP.out.prg
   obtain⟨r0,r1⟩:=two_cells HP.out.res
   have f0:=not_frozen HP.out.res 0
   have f1:=not_frozen HP.out.res 1
   obtain⟨aov,capv,hv,_⟩:=ownsRow_shape HP.out.row
   subst hv
   obtain⟨m,hm'⟩:∃m,ops.length=m:=⟨_,rfl⟩
   have HM:=xhd hm'
   rw [hm'] at p1 hl12
   clear hm'
   cases h125:isR L c 3 [125] with
   |true=>
    have hcl:=is_lt h125
    rw [HN.out] at hcl
    have his3:=HIS.out c 3 ⟨#[125]⟩ wo HWA.out
    have e:isR L c 3 (⟨#[125]⟩:ByteArray).data.toList=true:=h125
    rw [e] at his3
    have HI3:=xhd his3
    clear his3 e
    have hans:=HP.out.ans.trans (congrArg (tailP true) (ops_end HP.out.len h125))
    by_cases h0:m=0
    ·have hops:ops=[]:=List.eq_nil_of_length_eq_zero (HM.out.trans h0)
     rw [if_pos hops] at hans
     have HE:=xhd hans
     subst h0
     clear hans h125 hops
     go_wp2_with fail
     with_reducible refine HI3.out.mono ?_
     rintro e w1 ⟨rfl,rfl⟩
     go_wp2
     (try simp only [Exit.inBlock,Exit.then])
     refine bodyPost_ret (prg_result2 rfl rfl rfl rfl (HP.out.ended _ _).1) rfl ?_
     exact parse_bad HE.out (HP.out.ended _ _).2.1
    ·have hops:¬ops=[]:=fun h=>h0 (by rw [←HM.out,h];rfl)
     rw [if_neg hops] at hans
     unfold tailP at hans
     simp only [Int.natCast_add,Int.cast_ofNat_Int] at hans
     have HE:=xhd hans
     have hmb:((m:Int) == 0)=false:=by simp;omega
     clear hans h125 hops
     go_wp2_with fail
     with_reducible refine HI3.out.mono ?_
     rintro e w1 ⟨rfl,rfl⟩
     go_wp2
     (try simp only [Exit.inBlock,Exit.then])
     refine bodyPost_ret (prg_result2 rfl rfl rfl rfl (HP.out.ended _ _).1) rfl ?_
     exact parse_good HE.out (HM.out ▸ (HP.out.ended _ _).2.2) (HP.out.ended _ _).2.1
   |false=>
    have his3:=HIS.out c 3 ⟨#[125]⟩ wo HWA.out
    have e:isR L c 3 (⟨#[125]⟩:ByteArray).data.toList=false:=h125
    rw [e] at his3
    have HI3:=xhd his3
    have H125:=xhd h125
    clear his3 e h125
    go_wp2_with fail
    with_reducible refine HI3.out.mono ?_
    rintro e w1 ⟨rfl,rfl⟩
    rename World=>wo
    go_wp2_with fail
    clear HI3
    go_loopw [8,9] (fun k8 k9 wr=>∃j:Nat,1≤j∧j≤12∧k9= .int .i64 j∧k8= .int .i64 (kindUp L c (j - 1))∧Hid (Below wo.heap.size wo wr)) (fun _ k9 _=>12 - (intOf k9).toNat)
    case atStart=>exact⟨1,by omega,by omega,rfl,rfl,Below.refl _ _⟩
    case round=>
     obtain⟨j,hj1,hj12,rfl,rfl,HB2⟩:=hrel
     rename World=>wk
     by_cases hj:j≤11
     ·obtain⟨tx,htx⟩:∃tx:ByteArray,⟨(nameR (j:Int)).toArray⟩=tx:=⟨_,rfl⟩
      have HTX:Hid (tx.data.toList=nameR (j:Int)):=by unfold Hid;rw [←htx]
      have hnm:=fun W=>rname_any (j:Int) (by omega) (by omega) W
      simp only [htx] at hnm
      have HNM:=xhd hnm
      clear hnm htx
      have his4:=fun W hW=>HIS.out c 1 tx W hW
      rw [HTX.out] at his4
      cases hq:isR L c 1 (nameR (j:Int)) with
      |true=>
       simp only [hq] at his4
       have HI4:=xhd his4
       have HKU:=xhd (kind_yes hj1 hq)
       clear his4 hq
       go_wp2_with fail
       with_reducible refine (HNM.out _).mono ?_
       rintro e w2 ⟨rfl,hb2⟩
       have HB3:=xhd (HB2.out.trans (hb2.mono HB2.out.size))
       have HWA2:=xhd (HWA.out.below HB3.out)
       clear hb2
       go_wp2_with fail
       with_reducible refine (HI4.out _ HWA2.out).mono ?_
       rintro e w3 ⟨rfl,rfl⟩
       go_wp2
       go_roundw
       case rel=>exact⟨j+1,by omega,by omega,by go_num,by rw [Nat.add_sub_cancel,HKU.out],HB3⟩
       case measure=>simp [intOf];omega
      |false=>
       simp only [hq] at his4
       have HI4:=xhd his4
       have HKU:=xhd (kind_no hj1 hq)
       clear his4 hq
       go_wp2_with fail
       with_reducible refine (HNM.out _).mono ?_
       rintro e w2 ⟨rfl,hb2⟩
       have HB3:=xhd (HB2.out.trans (hb2.mono HB2.out.size))
       have HWA2:=xhd (HWA.out.below HB3.out)
       clear hb2
       go_wp2_with fail
       with_reducible refine (HI4.out _ HWA2.out).mono ?_
       rintro e w3 ⟨rfl,rfl⟩
       go_wp2
       go_roundw
       case rel=>exact⟨j+1,by omega,by omega,by go_num,by rw [Nat.add_sub_cancel,HKU.out],HB3⟩
       case measure=>simp [intOf];omega
     ·have hjj:j=12:=by omega
      subst hjj
      clear hj hj1 hj12
      have HP2:=xhd (HP.out.more HB2.out)
      obtain⟨kn,hkn⟩:∃kn,kindUp L c (12 - 1)=kn:=⟨_,rfl⟩
      have HKN:Hid (kindR L c=kn):=hkn
      have hkle:kn≤11:=by rw [←hkn];exact kind_le L c 11
      rw [hkn]
      clear hkn
      clear r0 r1 f0 f1
      obtain⟨r0,r1⟩:=two_cells HP2.out.res
      have f0:=not_frozen HP2.out.res 0
      have f1:=not_frozen HP2.out.res 1
      have p1k:wk.cell? ⟨w.heap.size+1,1,none⟩=some (.slice aov m capv):=(HB2.out.cell (p:=⟨w.heap.size+1,1,none⟩) (by simp;omega)).trans p1
      by_cases hk0:kn=0
      ·have HE:Hid (R=((false,[]),(c:Int),5)):=xhd (HP.out.ans.trans (by rw [ops_none HP.out.len H125.out (HKN.out.trans hk0)];rfl))
       subst hk0
       go_wp2
       (try simp only [Exit.inBlock,Exit.then])
       refine bodyPost_ret (prg_result2 rfl rfl rfl rfl (HP2.out.ended _ _).1) rfl ?_
       exact parse_bad HE.out (HP2.out.ended _ _).2.1
      ·have hknb:((kn:Int) == 0)=false:=by simp;omega
       by_cases hm12:m=12
       ·have HE:Hid (R=((false,[]),(c:Int),6)):=xhd (HP.out.ans.trans (by rw [ops_long (HM.out.trans hm12) H125.out (by rw [HKN.out];exact hk0)];rfl))
        subst hm12
        go_wp2
        (try simp only [Exit.inBlock,Exit.then])
        refine bodyPost_ret (prg_result2 rfl rfl rfl rfl (HP2.out.ended _ _).1) rfl ?_
        exact parse_bad HE.out (HP2.out.ended _ _).2.1
       ·have hm12b:((m:Int) == 12)=false:=by simp;omega
        obtain⟨lo,hi,hl⟩:∃lo hi,limR (kn:Int)=(lo,hi):=⟨_,_,rfl⟩
        have hl2:=fun W=>rlim_any (kn:Int) W
        simp only [hl] at hl2
        have HLM:=xhd hl2
        have HLR:=xhd hl
        clear hl2 hl
        go_wp2_with fail
        with_reducible refine (HLM.out _).mono ?_
        rintro e w2 ⟨rfl,rfl⟩
        go_wp2_with fail
        clear HLM
        have hlt12:ops.length < 12:=by rw [HM.out];omega
        have hkr:¬kindR L c=0:=by rw [HKN.out];exact hk0
        have hcn:=kind_lt 11 hkr
        rw [HN.out] at hcn
        go_loopw [1,11,12,13] (fun at' lo' hi' q' wr=>∃(q:Nat) (x y:Int) (d:Nat) (l2 h2:Int),at'= .int .i64 d∧lo'= .int .i64 l2∧hi'= .int .i64 h2∧q'= .int .i64 q∧q≤2∧d≤n∧c+1≤d∧Hid (AInv L c (kn:Int) lo hi wk wr q x y d l2 h2)) (fun _ _ _ q' _=>2 - (intOf q').toNat)
        case atStart=>exact⟨0,0,0,c+1,lo,hi,by go_num,rfl,rfl,rfl,by omega,by omega,by omega,AInv.start wk⟩
        case round=>
         obtain⟨q,x,y,d,l2,h2,rfl,rfl,rfl,rfl,hq2,hdn,hcd,HAI⟩:=hrel
         rename World=>wr
         have HP3:=xhd (HP2.out.more HAI.out.bel)
         have HWR:=xhd (HWA.out.below (HB2.out.trans (HAI.out.bel.mono HB2.out.size)))
         have hne1:¬w.heap.size=wk.heap.size:=by have:=HP2.out.siz;omega
         have hne2:¬wk.heap.size=w.heap.size:=by omega
         clear r0 r1 f0 f1 p0 p1 p1k
         obtain⟨r0,r1⟩:=two_cells HP3.out.res
         have f0:=not_frozen HP3.out.res 0
         have f1:=not_frozen HP3.out.res 1
         obtain⟨o0,o1,o2⟩:=op_cells HAI.out.cell
         have g1:=not_frozen HAI.out.cell 1
         have g2:=not_frozen HAI.out.cell 2
         rcases HAI.out.st with⟨hq0,hd0,hx0,hy0,hl0,hh0⟩ |⟨hq0,hx1,hy0⟩ |⟨hq0,d1,hx1,hy1⟩
         ·subst hq0 hx0 hy0 hl0 hh0
          have HD0:=xhd hd0
          clear hd0
          by_cases hlo:l2 < 0
          ·have HAI2:Hid (AInv L c (kn:Int) l2 h2 wk wr 1 0 0 d l2 h2):=xhd ⟨HAI.out.cell,HAI.out.bel, .inr (.inl ⟨rfl,by rw [←HD0.out];exact arg1_skip HLR.out hlo,rfl⟩)⟩
           go_wp2
           go_roundw
           case rel=>exact⟨1,0,0,d,l2,h2,rfl,rfl,rfl,by go_num,by omega,by omega,by omega,HAI2⟩
           case measure=>simp [intOf]
          ·have hlo2:(0:Int)≤l2:=by omega
           by_cases hdl:d < n
           ·have hdl':d < L.length:=by rw [HN.out];exact hdl
            obtain⟨rfl,hbl⟩:=HWR.out.at_ (by omega)
            obtain⟨x0,x1,x2,x3⟩:=HWR.out.cells d hdl'
            clear x1 x3
            have HK2:=xhd (fun h=>arg_kind (lo:=l2) (hi:=h2) hdl' h)
            have HRG:=xhd (fun h h'=>arg_range (lo:=l2) (hi:=h2) hdl' h h')
            have HOK:=xhd (fun h h'=>arg_ok (lo:=l2) (hi:=h2) hdl' h h')
            obtain⟨⟨k1,t1,n1,p1'⟩,hx⟩:∃x,L[d]=x:=⟨_,rfl⟩
            rw [hx] at x0 x2 HK2 HRG HOK
            simp only at x0 x2 HK2 HRG HOK
            clear hx
            by_cases hk2:k1=2
            ·subst hk2
             by_cases hr1:n1 < l2
             ·have HP4:=xhd (HP2.out.more (HAI.out.bel.setCell (p:=⟨wk.heap.size,1,none⟩) (Nat.le_refl _) (.int .i64 n1)))
              have HE:Hid (R=((false,[]),(d:Int),1)):=xhd (ans_fail HP3.out hlt12 H125.out hkr (by rw [HKN.out, ←HD0.out];exact op_arg1 (by rw [arg1_arg HLR.out hlo];exact HRG.out rfl (.inl hr1))))
              go_wp2
              (try simp only [Exit.inBlock,Exit.then])
              refine bodyPost_ret (prg_result2 rfl rfl rfl rfl ((HP4.out).ended _ _).1) rfl ?_
              exact parse_bad HE.out ((HP4.out).ended _ _).2.1
             ·by_cases hr2:h2 < n1
              ·have HP4:=xhd (HP2.out.more (HAI.out.bel.setCell (p:=⟨wk.heap.size,1,none⟩) (Nat.le_refl _) (.int .i64 n1)))
               have HE:Hid (R=((false,[]),(d:Int),1)):=xhd (ans_fail HP3.out hlt12 H125.out hkr (by rw [HKN.out, ←HD0.out];exact op_arg1 (by rw [arg1_arg HLR.out hlo];exact HRG.out rfl (.inr hr2))))
               go_wp2
               (try simp only [Exit.inBlock,Exit.then])
               refine bodyPost_ret (prg_result2 rfl rfl rfl rfl ((HP4.out).ended _ _).1) rfl ?_
               exact parse_bad HE.out ((HP4.out).ended _ _).2.1
              ·have HAI2:Hid (AInv L c (kn:Int) l2 h2 wk (wr.setCell ⟨wk.heap.size,1,none⟩ (.int .i64 n1)) 1 n1 (0) (d+1) l2 h2):=xhd ⟨op_stored1 HAI.out.cell,HAI.out.bel.setCell (Nat.le_refl _) _, .inr (.inl ⟨rfl,by rw [←HD0.out,arg1_arg HLR.out hlo];exact HOK.out rfl (by omega),rfl⟩)⟩
               go_wp2
               go_roundw
               case rel=>exact⟨1,n1,0,d+1,l2,h2,by go_num,rfl,rfl,by go_num,by omega,by omega,by omega,HAI2⟩
               case measure=>simp [intOf]
            ·have hk2b:(k1 != 2)=true:=by simpa using hk2
             have HE:Hid (R=((false,[]),(d:Int),5)):=xhd (ans_fail HP3.out hlt12 H125.out hkr (by rw [HKN.out, ←HD0.out];exact op_arg1 (by rw [arg1_arg HLR.out hlo];exact HK2.out hk2)))
             go_wp2
             (try simp only [Exit.inBlock,Exit.then])
             refine bodyPost_ret (prg_result2 rfl rfl rfl rfl ((HP3.out).ended _ _).1) rfl ?_
             exact parse_bad HE.out ((HP3.out).ended _ _).2.1
           ·have hdl2:n≤d:=by omega
            have HE:Hid (R=((false,[]),(d:Int),5)):=xhd (ans_fail HP3.out hlt12 H125.out hkr (by rw [HKN.out, ←HD0.out];exact op_arg1 (by rw [arg1_arg HLR.out hlo];exact arg_none (by rw [HN.out];exact hdl2))))
            go_wp2
            (try simp only [Exit.inBlock,Exit.then])
            refine bodyPost_ret (prg_result2 rfl rfl rfl rfl ((HP3.out).ended _ _).1) rfl ?_
            exact parse_bad HE.out ((HP3.out).ended _ _).2.1
         ·subst hq0 hy0
          have HX1:=xhd hx1
          clear hx1
          by_cases h5:(kn:Int)=5
          ·have h5b:((kn:Int) != 5)=false:=by simpa using h5
           have H5:=xhd h5
           clear h5
           by_cases hdl:d < n
           ·have hdl':d < L.length:=by rw [HN.out];exact hdl
            obtain⟨rfl,hbl⟩:=HWR.out.at_ (by omega)
            obtain⟨x0,x1,x2,x3⟩:=HWR.out.cells d hdl'
            clear x1 x3
            have HK2:=xhd (fun h=>arg_kind (lo:=1) (hi:=64) hdl' h)
            have HRG:=xhd (fun h h'=>arg_range (lo:=1) (hi:=64) hdl' h h')
            have HOK:=xhd (fun h h'=>arg_ok (lo:=1) (hi:=64) hdl' h h')
            obtain⟨⟨k1,t1,n1,p1'⟩,hx⟩:∃x,L[d]=x:=⟨_,rfl⟩
            rw [hx] at x0 x2 HK2 HRG HOK
            simp only at x0 x2 HK2 HRG HOK
            clear hx
            by_cases hk2:k1=2
            ·subst hk2
             by_cases hr1:n1 < 1
             ·have HP4:=xhd (HP2.out.more (HAI.out.bel.setCell (p:=⟨wk.heap.size,2,none⟩) (Nat.le_refl _) (.int .i64 n1)))
              have HE:Hid (R=((false,[]),(d:Int),1)):=xhd (ans_fail HP3.out hlt12 H125.out hkr (by rw [HKN.out];exact op_arg2 HX1.out (by rw [arg2_arg H5.out];exact HRG.out rfl (.inl hr1))))
              go_wp2
              (try simp only [Exit.inBlock,Exit.then])
              refine bodyPost_ret (prg_result2 rfl rfl rfl rfl ((HP4.out).ended _ _).1) rfl ?_
              exact parse_bad HE.out ((HP4.out).ended _ _).2.1
             ·by_cases hr2:64 < n1
              ·have HP4:=xhd (HP2.out.more (HAI.out.bel.setCell (p:=⟨wk.heap.size,2,none⟩) (Nat.le_refl _) (.int .i64 n1)))
               have HE:Hid (R=((false,[]),(d:Int),1)):=xhd (ans_fail HP3.out hlt12 H125.out hkr (by rw [HKN.out];exact op_arg2 HX1.out (by rw [arg2_arg H5.out];exact HRG.out rfl (.inr hr2))))
               go_wp2
               (try simp only [Exit.inBlock,Exit.then])
               refine bodyPost_ret (prg_result2 rfl rfl rfl rfl ((HP4.out).ended _ _).1) rfl ?_
               exact parse_bad HE.out ((HP4.out).ended _ _).2.1
              ·have HAI2:Hid (AInv L c (kn:Int) lo hi wk (wr.setCell ⟨wk.heap.size,2,none⟩ (.int .i64 n1)) 2 x (n1) (d+1) 1 64):=xhd ⟨op_stored2 HAI.out.cell,HAI.out.bel.setCell (Nat.le_refl _) _, .inr (.inr ⟨rfl,d,HX1.out,by rw [arg2_arg H5.out];exact HOK.out rfl (by omega)⟩)⟩
               go_wp2
               go_roundw
               case rel=>exact⟨2,x,n1,d+1,1,64,by go_num,rfl,rfl,by go_num,by omega,by omega,by omega,HAI2⟩
               case measure=>simp [intOf]
            ·have hk2b:(k1 != 2)=true:=by simpa using hk2
             have HE:Hid (R=((false,[]),(d:Int),5)):=xhd (ans_fail HP3.out hlt12 H125.out hkr (by rw [HKN.out];exact op_arg2 HX1.out (by rw [arg2_arg H5.out];exact HK2.out hk2)))
             go_wp2
             (try simp only [Exit.inBlock,Exit.then])
             refine bodyPost_ret (prg_result2 rfl rfl rfl rfl ((HP3.out).ended _ _).1) rfl ?_
             exact parse_bad HE.out ((HP3.out).ended _ _).2.1
           ·have hdl2:n≤d:=by omega
            have HE:Hid (R=((false,[]),(d:Int),5)):=xhd (ans_fail HP3.out hlt12 H125.out hkr (by rw [HKN.out];exact op_arg2 HX1.out (by rw [arg2_arg H5.out];exact arg_none (by rw [HN.out];exact hdl2))))
            go_wp2
            (try simp only [Exit.inBlock,Exit.then])
            refine bodyPost_ret (prg_result2 rfl rfl rfl rfl ((HP3.out).ended _ _).1) rfl ?_
            exact parse_bad HE.out ((HP3.out).ended _ _).2.1
          ·have h5b:((kn:Int) != 5)=true:=by simpa using h5
           have HAI2:Hid (AInv L c (kn:Int) lo hi wk wr 2 x 0 d l2 h2):=xhd ⟨HAI.out.cell,HAI.out.bel, .inr (.inr ⟨rfl,d,HX1.out,arg2_skip h5⟩)⟩
           go_wp2
           go_roundw
           case rel=>exact⟨2,x,0,d,l2,h2,rfl,rfl,rfl,by go_num,by omega,by omega,by omega,HAI2⟩
           case measure=>simp [intOf]
         ·subst hq0
          have his5:=HIS.out d 3 ⟨#[59]⟩ wr HWR.out
          cases h59:isR L d 3 [59] with
          |false=>
           have e:isR L d 3 (⟨#[59]⟩:ByteArray).data.toList=false:=h59
           rw [e] at his5
           have HI5:=xhd his5
           have HE:Hid (R=((false,[]),(d:Int),5)):=xhd (ans_fail HP3.out hlt12 H125.out hkr (by rw [HKN.out];exact op_semi hx1 hy1 h59))
           clear his5 e h59 hx1 hy1
           go_wp2_with fail
           with_reducible refine HI5.out.mono ?_
           rintro e w3 ⟨rfl,rfl⟩
           go_wp2
           (try simp only [Exit.inBlock,Exit.then])
           refine bodyPost_ret (prg_result2 rfl rfl rfl rfl (HP3.out.ended _ _).1) rfl ?_
           exact parse_bad HE.out (HP3.out.ended _ _).2.1
          |true=>
           have e:isR L d 3 (⟨#[59]⟩:ByteArray).data.toList=true:=h59
           rw [e] at his5
           have HI5:=xhd his5
           have hdl:=is_lt h59
           rw [HN.out] at hdl
           have HNX:=xhd (HP3.out.ans.trans (congrArg (tailP true) (ops_more hlt12 H125.out hkr (by rw [HKN.out];exact op_done hx1 hy1 h59))))
           obtain⟨p0,p1⟩:=two_cells HP3.out.prg
           have HROW:Hid (wr.ownsRow (w.heap.size+2) 142 3 (.slice aov m capv) m (opsC ops)):=by
            have h:wr.ownsRow (w.heap.size+2) 142 3 (.slice aov ops.length capv) ops.length (opsC ops):=HP3.out.row
            rw [HM.out] at h
            exact h
           rw [HM.out] at p1
           have HL12:=xhd hlt12
           have hm11:m < 12:=by omega
           have hsz3:=HP3.out.siz
           clear his5 e h59 hx1 hy1 hlt12
           go_wp2_with fail
           with_reducible refine HI5.out.mono ?_
           rintro e w3 ⟨rfl,rfl⟩
           go_wp2_with (at_builtin;refine wpList_append_own _ rfl _ _ 47 rfl (w.heap.size+2) 142 i0 (.agg #[.int .i64 0, .int .i64 0, .int .i64 0]) 3 24 Tryz.underlying47 hi0 hz0 hz1 hz2 rfl (by decide) _ _ _ rfl (row_below HROW.out ((Below.refl _ _).alloc (Nat.le_refl _) _)) ⟨_,0,none⟩ 1 1 [.int .i64 (kn:Int), .int .i64 x, .int .i64 y] rfl rfl ?c1 ?c2 ?c3 ?c4 ?c5 ?_)
           case c1=>exact op_new _ _ _ _ _
           case c2=>
            intro u hu
            simp at hu
            rcases hu with rfl|rfl|rfl<;>rfl
           case c3=>unfold maxLen;omega
           case c4=>omega
           case c5=>simp;omega
           intro v' w4 hown2 hgrow _
           obtain⟨ao4,cap4,hv4,_⟩:=ownsRow_shape hown2
           subst hv4
           have hown3:ORow (w.heap.size+2) w4 (.slice ao4 (m+1) cap4) (ops++[((kn:Int),x,y)]):=by
            unfold ORow
            rw [opsC_snoc,List.length_append,List.length_singleton,HM.out]
            exact hown2
           have hgr:(w3.alloc (.cells #[.int .i64 (kn:Int), .int .i64 x, .int .i64 y] 142)).grownBy w4 (Value.slice aov ops.length capv).ownBlock:=by
            rw [HM.out]
            exact hgrow
           have hwx:=HP3.out.more ((Below.refl _ w3).alloc (Nat.le_refl _) (.cells #[.int .i64 (kn:Int), .int .i64 x, .int .i64 y] 142))
           have hG:=hwx.grown hgr
           obtain⟨q0,q1⟩:=two_cells hG
           have g3:=not_frozen hG 1
           have HP5:=xhd (PInv.push hwx hown3 hgr HNX.out HL12.out)
           clear hown2 hgrow hown3 hgr hwx hG HNX HP3 HROW
           go_wp2
           go_roundw
           case rel=>exact⟨d+1,ops++[((kn:Int),x,y)],_,by go_num,by omega,HP5⟩
           case measure=>simp [intOf];omega
end Go.Proofs.YtbnhnnccioljhaaGreatDoor
