/-
  The document's Parse of setups, from any place.
  The document's Parse of scripts. (Made by gen_scrprs.py.)
  ScriptAny's walk.
-/
import Derived.Test.YtbnhnnccioljhaaGreatDoorZBN
import Derived.Test.YtbnhnnccioljhaaGreatDoorZBM
import Derived.Test.YtbnhnnccioljhaaGreatDoorZBP
import Derived.Test.YtbnhnnccioljhaaGreatDoorZAU
import Derived.Test.YtbnhnnccioljhaaGreatDoorZBI
import Derived.Test.YtbnhnnccioljhaaGreatDoorZAl
set_option maxRecDepth 100000
set_option maxHeartbeats 25600000
namespace Go.Proofs.YtbnhnnccioljhaaGreatDoor
open Go.RowKit
theorem rsparse_out (ao:Option Addr) (n cap:Nat) (R:Stp×Int×Int) (at_:Int) (w:World) (h:at_ < 0∨(n:Int) < at_) (hR:R=(noneS,0,5)):
  Calls Tryz.prog 38 #[.slice ao n cap, .int .i64 at_] w (ParseSK R w):=by
 have HF:=xhd (And.intro (heap_alloc_new w (.cells zeroSt 26)) ((Below.refl _ w).alloc (Nat.le_refl _) (.cells zeroSt 26)))
 have HR:=xhd hR
 clear hR
 by_cases h0:at_ < 0
 ·clear h
  go_enter Tryz.func38,Tryz.ntmps38
  go_wp2
  refine bodyPost_ret (st_res rfl rfl rfl rfl HF.out.1) rfl ?_
  exact parse_badS HR.out HF.out.2
 ·have h1:(n:Int) < at_:=by omega
  clear h
  go_enter Tryz.func38,Tryz.ntmps38
  go_wp2
  refine bodyPost_ret (st_res rfl rfl rfl rfl HF.out.1) rfl ?_
  exact parse_badS HR.out HF.out.2
theorem rsparse_kept (ao:Option Addr) (bw off cap:Nat) (L:List Wd) (at_:Int) (w:World) (h:WArg w ao bw off L) (hm:L.length≤100000):
  Calls Tryz.prog 38 #[.slice ao L.length cap, .int .i64 at_] w (ParseSK (parseS L at_) w):=by
 by_cases ho:at_ < 0∨(L.length:Int) < at_
 ·refine rsparse_out ao L.length cap _ at_ w ho ?_
  unfold parseS
  rw [if_pos ho]
 ·obtain⟨a,rfl⟩:∃a:Nat,at_=a:=⟨at_.toNat,by omega⟩
  exact rsparse_in ao bw off cap L a w h hm (by omega)
theorem rscparse_any (s:ByteArray) (w:World):Calls Tryz.prog 14 #[.string s] w (ParseScP (parseSc s.data.toList) w):=by
 have HSC:=xhd (rscan_any s (w.alloc (.cells zeroSc 29)))
 unfold ScanPost at HSC
 have HZ:=xhd (heap_alloc_new w (.cells zeroSc 29))
 have HBA:=xhd ((Below.refl _ w).alloc (Nat.le_refl _) (.cells zeroSc 29))
 have hbad:=fun h=>parsesc_bad (t:=s.data.toList) h
 have hok:=fun L p h=> @parsesc_ok s.data.toList L p h
 have hln:(scanA s.data.toList).2.2=0→(scanA s.data.toList).1.length≤100000:=fun h=>by
  by_cases hl:s.data.toList.length≤8000
  ·have:=scan_len _ hl
   omega
  ·unfold scanA at h
   rw [if_pos (by omega)] at h
   cases h
 have HPB:=xhd (fun ao b off cap L k W h=>rplace_any s ao b off cap L k W h)
 obtain⟨⟨L,p,e⟩,hS⟩:∃R,scanA s.data.toList=R:=⟨_,rfl⟩
 rw [hS] at HSC hbad hln
 simp only at HSC hbad hln
 obtain⟨R,hR⟩:∃R,parseSc s.data.toList=R:=⟨_,rfl⟩
 obtain⟨t,ht⟩:∃t,s.data.toList=t:=⟨_,rfl⟩
 rw [hR] at hbad ⊢
 rw [hR,ht] at hok
 rw [ht] at hS HPB
 clear hR ht
 go_enter Tryz.func14,Tryz.ntmps14
 go_wp2_with fail
 with_reducible refine HSC.out.mono ?_
 rintro r w1 ⟨v,rfl,hr,hb⟩
 have HZ1:=xhd ((hb.block _ (lt_of_block HZ.out)).trans HZ.out)
 have HB1:=xhd (HBA.out.trans (hb.mono HBA.out.size))
 by_cases he:e=0
 ·subst he
  have hln:=hln rfl
  obtain⟨ao,bw,cap,rfl,hwa⟩:=WArg.of_row hr
  obtain⟨k,hk,hkl⟩:=parseS_place (L:=L) (a:=0) (Nat.zero_le _)
  obtain⟨⟨S,k',er⟩,hP⟩:∃P,parseS L 0=P:=⟨_,rfl⟩
  have hP0:parseS L ((0:Nat):Int)=(S,k',er):=hP
  rw [hP0] at hk
  simp only at hk
  subst hk
  obtain⟨k2,hk2,hkl2⟩:=parseAc_place hkl
  obtain⟨⟨RA,k2',e2⟩,hA⟩:∃P,parseAc L k=P:=⟨_,rfl⟩
  rw [hA] at hk2
  simp only at hk2
  subst hk2
  have hpa:partAc L (k,er)=if er=0 then (RA,(k2,e2)) else ([],(k,er)):=by
   unfold partAc
   simp only [hA,Int.toNat_natCast]
  have hok1:er≠0→R=(noneSc,placeSc t L k,er):=fun h=>(hok L p hS hP (hpa.trans (if_neg h))).1 h
  have hok2:er=0→e2≠0→R=(noneSc,placeSc t L k2,e2):=fun h0 h=>(hok L p hS hP (hpa.trans (if_pos h0))).1 h
  have hok3:er=0→e2=0→R=((S,RA),0,0):=fun h0 h=>(hok L p hS hP (hpa.trans (if_pos h0))).2 h
  have hsp:=rsparse_kept ao bw 0 cap L 0 w1 hwa hln
  have hap:=fun V (hV:WArg V ao bw 0 L)=>raparse_any ao bw 0 cap L k V hV hln
  unfold ParseSK at hsp
  unfold ParseAP at hap
  rw [hP] at hsp
  simp only [hA] at hap
  obtain⟨c,g,gs,ls,ps⟩:=S
  simp only at hsp
  obtain⟨ng,hng⟩:∃n,gs.length=n:=⟨_,rfl⟩
  obtain⟨nl,hnl⟩:∃n,ls.length=n:=⟨_,rfl⟩
  obtain⟨np,hnp⟩:∃n,ps.length=n:=⟨_,rfl⟩
  obtain⟨na,hna⟩:∃n,RA.length=n:=⟨_,rfl⟩
  obtain⟨nw,hnw⟩:∃n,L.length=n:=⟨_,rfl⟩
  simp only [hng,hnl,hnp] at hsp
  rw [hnw] at hsp ⊢
  simp only [hnw] at hap HPB
  have HPB':=xhd (fun k W (h:WArg W ao bw 0 L)=>by
   have h:=HPB.out ao bw 0 cap L k W h
   rw [hnw] at h
   exact h)
  have HNG:=xhd hng
  have HNL:=xhd hnl
  have HNP:=xhd hnp
  have HNA:=xhd hna
  have HSP:=xhd hsp
  have HAP:=xhd hap
  have HWA:=xhd hwa
  have HOK1:=xhd hok1
  have HOK2:=xhd hok2
  have HOK3:=xhd hok3
  clear hr hb hwa hP hP0 hok hok1 hok2 hok3 hpa hA hsp hap hng hnl hnp hna hnw hln hS hbad hkl hkl2 HPB
  go_wp2_with fail
  refine HSP.out.mono ?_
  rintro r w2 ⟨ag,bg,og,cg,al,bl,ol,cl,ap,bp,op,cp,rfl,hsk,hb⟩
  have hbx:Below w2.heap.size w2 (w2.alloc (.cells (stC c g ag ng cg al nl cl ap np cp) 26)):=(Below.refl _ w2).alloc (Nat.le_refl _) _
  have HB2:=xhd (HB1.out.trans (hb.mono HB1.out.size))
  have HX3':=xhd (heap_alloc_new w2 (.cells (stC c g ag ng cg al nl cl ap np cp) 26))
  have HB3':=xhd (HB2.out.trans (hbx.mono HB2.out.size))
  have HSK3':=xhd (hsk.below hbx)
  have HWA3':=xhd ((HWA.out.below hb).below hbx)
  have HZ3':=xhd ((hbx.block _ (by have:=hb.size;have:=lt_of_block HZ1.out;omega)).trans ((hb.block _ (lt_of_block HZ1.out)).trans HZ1.out))
  have HW3:Hid (∃W3,w2.alloc (.cells (stC c g ag ng cg al nl cl ap np cp) 26)=W3):=⟨_,rfl⟩
  have HL2:=xhd (lt_of_block HZ1.out)
  have HLS:=xhd hb.size
  clear hsk hb hbx
  by_cases he2:er=0
  ·have ee:(er != 0)=false:=by simpa using he2
   go_wp2_with fail
   obtain⟨W3,hW3⟩:=HW3.out
   rw [hW3] at HX3' HB3' HSK3' HWA3' HZ3'
   rw [hW3]
   have HX3:=HX3'
   have HB3:=HB3'
   have HSK3:=HSK3'
   have HWA3:=HWA3'
   have HZ3:=HZ3'
   clear hW3 HW3
   refine (HAP.out _ HWA3.out).mono ?_
   rintro r w4 ⟨va,rfl,hra,hb⟩
   obtain⟨aa,ca,hv,_⟩:=ownsRow_shape hra
   rw [HNA.out] at hv
   subst hv
   have HRA:=xhd (row_base hra HB3.out.size)
   have HB4:=xhd (HB3.out.trans (hb.mono HB3.out.size))
   have HZ4:=xhd ((hb.block _ (lt_of_block HZ3.out)).trans HZ3.out)
   have HX4:=xhd ((hb.block _ (lt_of_block HX3.out)).trans HX3.out)
   have HSK4:=xhd (HSK3.out.below hb)
   have HWA4:=xhd (HWA3.out.below hb)
   have HRL:=xhd (row_base hra (show w.heap.size+1≤_ by have:=lt_of_block HZ3.out;omega))
   clear hra hb
   have ne1:w.heap.size≠w2.heap.size:=by have:=HL2.out;have:=HLS.out;omega
   obtain⟨z0,z1,z2,z3,z4,z5⟩:=six_cells HZ4.out
   have fz0:=not_frozen HZ4.out 0
   have fz1:=not_frozen HZ4.out 1
   have fz2:=not_frozen HZ4.out 2
   have fz3:=not_frozen HZ4.out 3
   have fz4:=not_frozen HZ4.out 4
   have fz5:=not_frozen HZ4.out 5
   by_cases he3:e2=0
   ·have HRR:=xhd (HOK3.out he2 he3)
    have e1:(e2 != 0)=false:=by simpa using he3
    obtain⟨x0,x1,x2,x3,x4⟩:=st_cells HX4.out
    have HFI:=xhd (sc_stored (a:= .int .i64 c) (b:= .int .i64 g) (c:= .slice ag ng cg) (d:= .slice al nl cl) (e:= .slice ap np cp) (f:= .slice aa na ca) HZ4.out HB4.out)
    clear he3 he2
    go_wp2
    refine bodyPost_ret (sc_res rfl rfl rfl rfl HFI.out.1) rfl ?_
    rw [HRR.out]
    obtain⟨aa',ba,ca',e1,h1⟩:=AArg.of_row (ownsRow_same (w':=((((((w4.setCell ⟨w.heap.size,0,none⟩ (.int .i64 c)).setCell ⟨w.heap.size,1,none⟩ (.int .i64 g)).setCell ⟨w.heap.size,2,none⟩ (.slice ag ng cg)).setCell ⟨w.heap.size,3,none⟩ (.slice al nl cl)).setCell ⟨w.heap.size,4,none⟩ (.slice ap np cp)).setCell ⟨w.heap.size,5,none⟩ (.slice aa na ca))) HRL.out (fun k hk _=>sc_kept (by have:=(HRL.out.lt k (by simpa using hk)).1;omega)))
    injection e1 with e1 _ e3
    subst e1 e3
    refine⟨⟨ag,bg,og,cg,al,bl,ol,cl,ap,bp,op,cp,aa,ba,0,ca⟩,?_,⟨HSK4.out _ (fun k hk _=>sc_kept (by have:=HL2.out;omega)),h1⟩,HFI.out.2⟩
    show Ending.returned (.tuple #[.agg #[.int .i64 c, .int .i64 g, .slice ag ng cg, .slice al nl cl, .slice ap np cp, .slice aa na ca], .int .i64 0, .int .i64 0])=_
    simp only [scP,HNG.out,HNL.out,HNP.out,HNA.out]
   ·have HRR:=xhd (HOK2.out he2 he3)
    have e1:(e2 != 0)=true:=by simpa using he3
    have HBO:=xhd (HPB'.out k2 w4 HWA4.out)
    have HFI:=xhd (sc_stored (a:= .int .i64 0) (b:= .int .i64 0) (c:= .slice none 0 0) (d:= .slice none 0 0) (e:= .slice none 0 0) (f:= .slice none 0 0) HZ4.out HB4.out)
    clear he3 he2
    go_wp2_with fail
    with_reducible refine HBO.out.mono ?_
    rintro r w9 ⟨rfl,rfl⟩
    go_wp2
    refine bodyPost_ret (sc_res rfl rfl rfl rfl HFI.out.1) rfl ?_
    exact parse_badSc HRR.out HFI.out.2
  ·have HRR:=xhd (HOK1.out he2)
   have ee:(er != 0)=true:=by simpa using he2
   clear he2
   go_wp2_with fail
   obtain⟨W3,hW3⟩:=HW3.out
   rw [hW3] at HX3' HB3' HSK3' HWA3' HZ3'
   rw [hW3]
   have HB3:=HB3'
   have HWA3:=HWA3'
   have HZ3:=HZ3'
   clear hW3 HW3
   obtain⟨z0,z1,z2,z3,z4,z5⟩:=six_cells HZ3.out
   have fz0:=not_frozen HZ3.out 0
   have fz1:=not_frozen HZ3.out 1
   have fz2:=not_frozen HZ3.out 2
   have fz3:=not_frozen HZ3.out 3
   have fz4:=not_frozen HZ3.out 4
   have fz5:=not_frozen HZ3.out 5
   have HFI:=xhd (sc_stored (a:= .int .i64 0) (b:= .int .i64 0) (c:= .slice none 0 0) (d:= .slice none 0 0) (e:= .slice none 0 0) (f:= .slice none 0 0) HZ3.out HB3.out)
   with_reducible refine (HPB'.out k _ HWA3.out).mono ?_
   rintro r w9 ⟨rfl,rfl⟩
   go_wp2
   refine bodyPost_ret (sc_res rfl rfl rfl rfl HFI.out.1) rfl ?_
   exact parse_badSc HRR.out HFI.out.2
 ·have HRR:=xhd (hbad he)
  have he1:(e != 0)=true:=by simpa using he
  obtain⟨av,cv,hv,_⟩:=ownsRow_shape hr
  subst hv
  obtain⟨z0,z1,z2,z3,z4,z5⟩:=six_cells HZ1.out
  have fz0:=not_frozen HZ1.out 0
  have fz1:=not_frozen HZ1.out 1
  have fz2:=not_frozen HZ1.out 2
  have fz3:=not_frozen HZ1.out 3
  have fz4:=not_frozen HZ1.out 4
  have fz5:=not_frozen HZ1.out 5
  have HST:=xhd (sc_stored (a:= .int .i64 0) (b:= .int .i64 0) (c:= .slice none 0 0) (d:= .slice none 0 0) (e:= .slice none 0 0) (f:= .slice none 0 0) HZ1.out HB1.out)
  clear hr hb he hbad hok hln hS
  go_wp2
  refine bodyPost_ret (sc_res rfl rfl rfl rfl HST.out.1) rfl ?_
  exact parse_badSc HRR.out HST.out.2
theorem parse_noneSc {t:List By} (h:(parseSc t).2.2≠0):(parseSc t).1=noneSc:=by
 unfold parseSc at h ⊢
 simp only at h ⊢
 split
 ·rfl
 ·next h0=>
  rw [if_neg h0] at h
  split
  ·rfl
  ·next h1=>
   rw [if_neg h1] at h
   split
   ·rfl
   ·next h2=>
    rw [if_neg h2] at h
    exact absurd rfl h
theorem parse_sizeSc (t:List By):SSize (parseSc t).1.1∧(parseSc t).1.2.length≤4000:=by
 by_cases h:(parseSc t).2.2=0
 ·have hm:=script_may h
  simp only [scMay,Bool.and_eq_true,decide_eq_true_eq] at hm
  exact⟨may_size hm.1,hm.2.1⟩
 ·rw [parse_noneSc h]
  exact⟨none_size,Nat.zero_le _⟩
theorem scriptany_walk (s:ByteArray) (w:World) (hT:TabOk w):Calls Tryz.prog 4 #[.string s] w fun e w'=>e= .returned (.bool true)∧Below w.heap.size w w':=by
 have HT:=xhd hT
 have HAW:=xhd (awake14 w hT)
 have hp:=fun W=>scparse_any s W
 have hr:=fun W=>rscparse_any s W
 obtain⟨hz,hz2⟩:=parse_sizeSc s.data.toList
 have hmy:= @script_may s.data.toList
 unfold ParseScP at hp hr
 obtain⟨⟨⟨S,A⟩,n,e⟩,hR⟩:∃R,parseSc s.data.toList=R:=⟨_,rfl⟩
 simp only [hR] at hp hr hz hz2 hmy
 have hsm:=fun p q W h1 h2=>rscsame_any S A p q W h1 h2 hz (by omega)
 have hmm:=fun p W h=>scmay_any (S,A) p W h (by simp only;omega)
 obtain⟨c,g,gs,ls,ps⟩:=S
 obtain⟨ng,hng⟩:∃n,gs.length=n:=⟨_,rfl⟩
 obtain⟨nl,hnl⟩:∃n,ls.length=n:=⟨_,rfl⟩
 obtain⟨np,hnp⟩:∃n,ps.length=n:=⟨_,rfl⟩
 obtain⟨na,hna⟩:∃n,A.length=n:=⟨_,rfl⟩
 simp only [scP,hng,hnl,hnp,hna] at hp hr hsm hmm
 have HP:=xhd hp
 have HR:=xhd hr
 have HSM:=xhd hsm
 have HMM:=xhd hmm
 have HMY:=xhd hmy
 have hnn:(n == n)=true:=by simp
 have hee:(e == e)=true:=by simp
 clear hp hr hsm hmm hmy hz hz2 hR hng hnl hnp hna hT
 go_enter Tryz.func4,Tryz.ntmps4
 go_wp2_with fail
 with_reducible refine HAW.out.mono ?_
 rintro r w1 ⟨rfl,hb⟩
 have HB1:=xhd hb
 clear hb
 by_cases hlen:s.size≤400
 ·have hl:¬(400:Int) < s.size:=by omega
  go_wp2_with fail
  refine (HP.out _).mono ?_
  rintro r w2 ⟨⟨ag,bg,og,cg,al,bl,ol,cl,ap,bp,op,cp,aa,ba,oa,ca⟩,rfl,hsa,hb⟩
  simp only
  have hbx:Below w2.heap.size w2 (w2.alloc (.cells #[.int .i64 c, .int .i64 g, .slice ag ng cg, .slice al nl cl, .slice ap np cp, .slice aa na ca] 29)):=(Below.refl _ w2).alloc (Nat.le_refl _) _
  have HX:=xhd (heap_alloc_new w2 (.cells #[.int .i64 c, .int .i64 g, .slice ag ng cg, .slice al nl cl, .slice ap np cp, .slice aa na ca] 29))
  have HSA:=xhd (hsa.below hbx)
  have HB2:=xhd (HB1.out.trans (hb.mono HB1.out.size))
  have HB3:=xhd (HB2.out.trans (hbx.mono HB2.out.size))
  clear hsa hb hbx
  go_wp2_with fail
  refine (HR.out _).mono ?_
  rintro r w4 ⟨⟨ag',bg',og',cg',al',bl',ol',cl',ap',bp',op',cp',aa',ba',oa',ca'⟩,rfl,hsa,hb⟩
  simp only
  have hbx:Below w4.heap.size w4 (w4.alloc (.cells #[.int .i64 c, .int .i64 g, .slice ag' ng cg', .slice al' nl cl', .slice ap' np cp', .slice aa' na ca'] 29)):=(Below.refl _ w4).alloc (Nat.le_refl _) _
  have HX4:=xhd ((hb.block _ (lt_of_block HX.out)).trans HX.out)
  have HSA5:=xhd ((HSA.out.below hb).below hbx)
  have HSB5:=xhd (hsa.below hbx)
  have HB4:=xhd (HB3.out.trans (hb.mono HB3.out.size))
  have HB5:=xhd (HB4.out.trans (hbx.mono HB4.out.size))
  obtain⟨x0,x1,x2,x3,x4,x5⟩:=six_cells HX4.out
  have hlt4:=lt_of_block HX4.out
  have HCM:=xhd (HSM.out _ _ _ HSA5.out HSB5.out)
  have HX5:=xhd ((hbx.block _ (lt_of_block HX4.out)).trans HX4.out)
  clear hsa hb hbx
  go_wp2_with fail
  with_reducible refine HCM.out.mono ?_
  rintro r w6 ⟨rfl,hb⟩
  have HB6:=xhd (HB5.out.trans (hb.mono HB5.out.size))
  by_cases he:e=0
  ·have e1:(e != 0)=false:=by simpa using he
   have hm6:=HMM.out _ _ (HSA5.out.below hb)
   rw [HMY.out he] at hm6
   have HM6:=xhd hm6
   clear x0 x1 x2 x3 x4 x5
   obtain⟨x0,x1,x2,x3,x4,x5⟩:=six_cells ((hb.block _ (lt_of_block HX5.out)).trans HX5.out)
   clear hb hm6 he
   go_wp2_with fail
   with_reducible refine HM6.out.mono ?_
   rintro r w7 ⟨rfl,hb⟩
   have HB7:=xhd (HB6.out.trans (hb.mono HB6.out.size))
   clear hb x0 x1 x2 x3 x4 x5
   go_wp2
   go_ret
   exact⟨rfl,HB7.out⟩
  ·have e1:(e != 0)=true:=by simpa using he
   clear hb he x0 x1 x2 x3 x4 x5
   go_wp2
   go_ret
   exact⟨rfl,HB6.out⟩
 ·have hl:(400:Int) < s.size:=by omega
  go_wp2
  go_ret
  exact⟨rfl,HB1.out⟩
end Go.Proofs.YtbnhnnccioljhaaGreatDoor
