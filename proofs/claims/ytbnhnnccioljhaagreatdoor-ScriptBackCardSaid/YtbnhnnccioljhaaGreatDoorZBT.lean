/-
  The document's Print of setups.
  The document's Print of scripts.
  ScriptBack's walk. (Made by gen_scback.py.)
-/
import Derived.Test.YtbnhnnccioljhaaGreatDoorZBQ
import Derived.Test.YtbnhnnccioljhaaGreatDoorZBR
import Derived.Test.YtbnhnnccioljhaaGreatDoorZBM
import Derived.Test.YtbnhnnccioljhaaGreatDoorZAQ
import Derived.Test.YtbnhnnccioljhaaGreatDoorZAO
import Derived.Test.YtbnhnnccioljhaaGreatDoorZBI
import Derived.Test.YtbnhnnccioljhaaGreatDoorZBE
import Derived.Test.YtbnhnnccioljhaaGreatDoorZBB
import Derived.Test.YtbnhnnccioljhaaGreatDoorZAl
set_option maxRecDepth 100000
set_option maxHeartbeats 25600000
namespace Go.Proofs.YtbnhnnccioljhaaGreatDoor
open Go.RowKit
theorem may_lens {s:Stp} (h:mayS s=true):s.2.2.1.length≤4∧s.2.2.2.1.length≤8∧s.2.2.2.2.length≤8∧∀x ∈ s.2.2.2.2,x.2.length≤12:=by
 have hm:=(may_is s).symm.trans h
 simp only [Bool.and_eq_true,inS,decide_eq_true_eq] at hm
 obtain⟨⟨m1,m2,m3⟩, -,m4⟩:=hm
 refine⟨by omega,m2,by omega,fun x hx=>?_⟩
 have hp:=check_may (of_decide_eq_true (List.all_eq_true.1 ((mis_all _ _ _ _).1 m4) x hx))
 obtain⟨f,L⟩:=x
 simp only [mayR,Bool.and_eq_true,decide_eq_true_eq] at hp
 simp only
 omega
theorem rscprint_any (x:Scr) (p:Pl) (w:World) (h:ScArg w x p) (hz:SSize x.1) (hm:x.2.length≤3000):
  Calls Tryz.prog 9 #[.agg (scP x p)] w (PrintP (printSc x) w):=by
 obtain⟨i0,hi0,hz0,hz1,hz2⟩:=info_parts word_info
 have HX:=xhd (heap_alloc_new w (.cells (scP x p) 29))
 have HBX:=xhd ((Below.refl _ w).alloc (Nat.le_refl _) (.cells (scP x p) 29))
 have hy:=rsmay_any x.1 p.ag p.bg p.og p.cg p.al p.bl p.ol p.cl p.ap p.bp p.op p.cp _ (h.s.below HBX.out) hz
 have ha:=fun W (hW:Below w.heap.size w W)=>rawords_any p.aa p.ba p.oa p.ca x.2 W (h.a.below hW) (by omega)
 have hj:=fun ao b cap W hW hL=>rjoin_long ao b 0 cap (wordsSc x) W hW hL (scwords_short x)
 have hws:=swords_pos x.1
 have hl6:=acws_len6 x.2
 unfold WordsAP wordsAc at ha
 unfold printSc
 rw [scmay_is]
 have hma2:actsMay x.2=acsMay x.2:=by
  unfold actsMay
  rw [decide_eq_true (show x.2.length≤4000 by omega)]
  rfl
 rw [hma2]
 have g4:¬(4000:Int) < x.2.length:=by omega
 by_cases hms:mayS x.1=true
 ·have hl1:=swords_len hms
  obtain⟨q1,q2,q3,q4⟩:=may_lens hms
  have hs:=fun W (hW:Below w.heap.size w W)=>rswords_any x.1 p.ag p.bg p.og p.cg p.al p.bl p.ol p.cl p.ap p.bp p.op p.cp W (h.s.below hW) q1 q2 q3 (fun y hy=>⟨q4 y hy,(hz.ops y hy).2⟩)
  rw [hms] at hy ⊢
  clear q1 q2 q3 q4
  by_cases hma:acsMay x.2=true
  ·simp only [hma,if_true,if_neg (show ¬4000 < x.2.length by omega)] at ha
   rw [hma,if_pos (show (true&&true)=true from rfl)]
   have happ:wordsSc x=wordsS x.1++x.2.flatMap acW:=rfl
   obtain⟨⟨c,g,gs,ls,ps⟩,acs⟩:=x
   obtain⟨ws,hws2⟩:∃l,wordsS (c,g,gs,ls,ps)=l:=⟨_,rfl⟩
   obtain⟨xs,hxs⟩:∃l,acs.flatMap acW=l:=⟨_,rfl⟩
   unfold WordsP at hs
   simp only [hws2,hxs] at hs ha hl1 hl6 hws happ hy HX HBX ⊢
   obtain⟨ng,hng⟩:∃n,gs.length=n:=⟨_,rfl⟩
   obtain⟨nl,hnl⟩:∃n,ls.length=n:=⟨_,rfl⟩
   obtain⟨np,hnp⟩:∃n,ps.length=n:=⟨_,rfl⟩
   obtain⟨na,hna⟩:∃n,acs.length=n:=⟨_,rfl⟩
   obtain⟨J,hJ⟩:∃J,wordsSc ((c,g,gs,ls,ps),acs)=J:=⟨_,rfl⟩
   obtain⟨ag,bg,og,cg,al,bl,ol,cl,ap,bp,op,cp,aa,ba,oa,ca⟩:=p
   rw [hJ] at hj happ ⊢
   simp only [scP,hng,hnl,hnp,hna] at hs ha hy HX HBX hl6 hm g4 ⊢
   have HS:=xhd hs
   have HA:=xhd ha
   have HY:=xhd hy
   have HJ:=xhd hj
   have HAPP:=xhd happ
   have HL1:=xhd (show ws.length+xs.length≤25000 by omega)
   have HL2:=xhd (show ws.length≤1000∧xs.length≤6*na by exact⟨hl1,hl6⟩)
   have HWS:=xhd hws
   have HM:=xhd hm
   clear hs ha hy hj happ hl1 hl6 hws hws2 hxs hng hnl hnp hna hJ h hz hms hma hma2 hm
   go_enter Tryz.func9,Tryz.ntmps9
   go_wp2_with fail
   with_reducible refine HY.out.mono ?_
   rintro e w1 ⟨rfl,hb⟩
   have HB1:=xhd (HBX.out.trans (hb.mono HBX.out.size))
   have HX1:=xhd ((hb.block _ (lt_of_block HX.out)).trans HX.out)
   obtain⟨y0,y1,y2,y3,y4,y5⟩:=six_cells HX1.out
   clear hb
   go_wp2_with fail
   with_reducible refine (HA.out _ HB1.out).mono ?_
   rintro e w2 ⟨v,rfl,hr,hb⟩
   have HB2:=xhd (HB1.out.trans (hb.mono HB1.out.size))
   have HX2:=xhd ((hb.block _ (lt_of_block HX1.out)).trans HX1.out)
   have HR2:=xhd hr
   obtain⟨a3,cap3,hv3,_⟩:=ownsRow_shape hr
   subst hv3
   clear hb hr y0 y1 y2 y3 y4 y5
   obtain⟨y0,y1,y2,y3,y4,y5⟩:=six_cells HX2.out
   go_wp2_with fail
   with_reducible refine (HS.out _ HB2.out).mono ?_
   rintro e w3 ⟨v,rfl,hr,hb⟩
   have HB3:=xhd (HB2.out.trans (hb.mono HB2.out.size))
   have HR3:=xhd (row_base hr HB2.out.size)
   obtain⟨g3,cap4,rfl,_,_⟩:=ownsRow_pos hr HWS.out
   obtain⟨a3',cap3',e3,hnil,hcv⟩:=row_parts (row_below HR2.out hb)
   simp only [Value.slice.injEq,true_and] at e3
   obtain⟨rfl,rfl⟩:=e3
   have HNIL:=xhd hnil
   have HCV:=xhd hcv
   clear hb hr hnil hcv y0 y1 y2 y3 y4 y5
   go_wp2_with (at_builtin;refine wpList_append_any _ rfl _ _ 50 rfl 95 i0 (.agg #[.int .i64 0, .string ⟨#[]⟩, .int .i64 0, .int .i64 0]) 4 40 Tryz.underlying50 hi0 hz0 hz1 hz2 rfl (by decide) _ ws.length (wdsC ws) rfl (row_base HR3.out (Nat.zero_le _)) a3 xs.length cap3 (wdsC xs) rfl (by rw [wdsC_len]) HNIL.out HCV.out (wdsC_one _) (by have:=HL1.out;unfold maxLen;omega) (by have:=HL1.out;omega) ?_;intro a4 c4 w4 hown hgrow hnew)
   have HR4:=xhd (wapp_row HR3.out HB3.out.size hown hnew)
   have HB4:=xhd (app_below HB3.out (Nat.le_refl _) (Nat.le_refl _) HR3.out hgrow)
   obtain⟨a5,b5,c5,e5,hw5⟩:=WArg.of_row HR4.out
   simp only [Value.slice.injEq] at e5
   obtain⟨rfl,hln,rfl⟩:=e5
   rw [←HAPP.out] at hw5 hln
   have hjj:=HJ.out _ _ c4 _ hw5 (by rw [←hln];have:=HL2.out;have:=HM.out;omega)
   rw [←hln] at hjj
   have HJJ:=xhd hjj
   clear hown hgrow hnew hw5 hln hjj
   go_wp2_with fail
   with_reducible refine HJJ.out.mono ?_
   rintro e w5 ⟨rfl,hb⟩
   have HB5:=xhd (HB4.out.trans (hb.mono HB4.out.size))
   clear hb
   go_wp2
   go_ret2
   exact⟨rfl,HB5.out⟩
  ·have hma:acsMay x.2=false:=by simpa using hma
   simp only [hma,Bool.false_eq_true,if_false] at ha
   rw [hma,if_neg (show ¬(true&&false)=true by simp)]
   have HA:=xhd ha
   have HY:=xhd hy
   obtain⟨⟨c,g,gs,ls,ps⟩,acs⟩:=x
   obtain⟨ag,bg,og,cg,al,bl,ol,cl,ap,bp,op,cp,aa,ba,oa,ca⟩:=p
   obtain⟨ng,hng⟩:∃n,gs.length=n:=⟨_,rfl⟩
   obtain⟨nl,hnl⟩:∃n,ls.length=n:=⟨_,rfl⟩
   obtain⟨np,hnp⟩:∃n,ps.length=n:=⟨_,rfl⟩
   obtain⟨na,hna⟩:∃n,acs.length=n:=⟨_,rfl⟩
   simp only [scP,hng,hnl,hnp,hna] at HA HY HX HBX g4 ⊢
   clear hs ha hy hj hl1 hl6 hws hng hnl hnp hna h hz hms hma hma2 hm
   go_enter Tryz.func9,Tryz.ntmps9
   go_wp2_with fail
   with_reducible refine HY.out.mono ?_
   rintro e w1 ⟨rfl,hb⟩
   have HB1:=xhd (HBX.out.trans (hb.mono HBX.out.size))
   have HX1:=xhd ((hb.block _ (lt_of_block HX.out)).trans HX.out)
   obtain⟨y0,y1,y2,y3,y4,y5⟩:=six_cells HX1.out
   clear hb
   go_wp2_with fail
   with_reducible refine (HA.out _ HB1.out).mono ?_
   rintro e w2 ⟨v,rfl,hr,hb⟩
   have HB2:=xhd (HB1.out.trans (hb.mono HB1.out.size))
   obtain⟨a3,cap3,hv3,_⟩:=ownsRow_shape hr
   subst hv3
   clear hb hr y0 y1 y2 y3 y4 y5
   go_wp2
   go_ret2
   exact⟨rfl,HB2.out⟩
 ·have hms:mayS x.1=false:=by simpa using hms
  rw [hms] at hy ⊢
  rw [if_neg (by simp)]
  have HY:=xhd hy
  obtain⟨⟨c,g,gs,ls,ps⟩,acs⟩:=x
  obtain⟨ag,bg,og,cg,al,bl,ol,cl,ap,bp,op,cp,aa,ba,oa,ca⟩:=p
  obtain⟨ng,hng⟩:∃n,gs.length=n:=⟨_,rfl⟩
  obtain⟨nl,hnl⟩:∃n,ls.length=n:=⟨_,rfl⟩
  obtain⟨np,hnp⟩:∃n,ps.length=n:=⟨_,rfl⟩
  simp only [scP,hng,hnl,hnp] at HY HX HBX ⊢
  clear ha hy hj hl6 hws hng hnl hnp h hz hms hma2 hm g4
  go_enter Tryz.func9,Tryz.ntmps9
  go_wp2_with fail
  with_reducible refine HY.out.mono ?_
  rintro e w1 ⟨rfl,hb⟩
  have HB1:=xhd (HBX.out.trans (hb.mono HBX.out.size))
  clear hb
  go_wp2
  go_ret2
  exact⟨rfl,HB1.out⟩
structure ScX (w W:World) (cs:Array Value):Prop where
 box:W.heap[w.heap.size]?=some (.cells cs 29 (0,0))
 bel:Below w.heap.size w W
theorem ScX.below {w W W':World} {cs:Array Value} (h:ScX w W cs) (hb:Below W.heap.size W W'):ScX w W' cs:=
 ⟨(hb.block _ (lt_of_block h.box)).trans h.box,h.bel.trans (hb.mono h.bel.size)⟩
theorem printsc_no {x:Scr} (h:scMay x=false):printSc x=([],1):=by
 unfold printSc
 rw [h]
 rfl
theorem printsc_yes {x:Scr} (h:scMay x=true):printSc x=joinA (wordsSc x):=by
 unfold printSc
 rw [h]
 rfl
theorem scriptback_walk (x:Scr) (p:Pl) (w:World) (h:ScArg w x p) (hs:∀q ∈ x.1.2.2.2.2,∀o ∈ q.2,small o.1) (hT:TabOk w):
  Calls Tryz.prog 3 #[.agg (scP x p)] w fun e w'=>e= .returned (.bool true)∧Below w.heap.size w w':=by
 have HX0:Hid (ScX w (w.alloc (.cells (scP x p) 29)) (scP x p)):=xhd ⟨heap_alloc_new w _,(Below.refl _ w).alloc (Nat.le_refl _) _⟩
 have haw:∀V,ScX w V (scP x p)→Calls Tryz.prog 6 #[] V fun e w'=>e= .returned (.bool true)∧ScX w w' (scP x p):=fun V hV=>(awake14 V (hT.below hV.bel)).mono fun e w' h=>⟨h.1,hV.below h.2⟩
 have hsa:∀V,ScX w V (scP x p)→Calls Tryz.prog 7 #[.agg (stP x.1 p)] V fun e w'=>e= .returned (.bool (smallS x.1))∧ScX w w' (scP x p):=fun V hV=>(ssmall_any x.1 p.ag p.bg p.og p.cg p.al p.bl p.ol p.cl p.ap p.bp p.op p.cp V (h.s.below hV.bel)).mono fun e w' h=>⟨h.1,hV.below h.2⟩
 by_cases hlen:x.2.length≤60
 ·by_cases hsm:smallS x.1=true
  ·have hz:=smallS_size hsm hs
   have hpp:∀V,ScX w V (scP x p)→Calls Tryz.prog 8 #[.agg (scP x p)] V fun e w'=>e= .returned (.tuple #[.string ⟨(printSc x).1.toArray⟩, .int .i64 (printSc x).2])∧ScX w w' (scP x p):=fun V hV=>(scprint_any x p V (h.below hV.bel) (by omega) (hT.below hV.bel)).mono fun e w' h=>⟨h.1,hV.below h.2⟩
   have hrp:∀V,ScX w V (scP x p)→Calls Tryz.prog 9 #[.agg (scP x p)] V fun e w'=>e= .returned (.tuple #[.string ⟨(printSc x).1.toArray⟩, .int .i64 (printSc x).2])∧ScX w w' (scP x p):=fun V hV=>(rscprint_any x p V (h.below hV.bel) hz (by omega)).mono fun e w' h=>⟨h.1,hV.below h.2⟩
   have hmy:∀V,ScX w V (scP x p)→Calls Tryz.prog 10 #[.agg (scP x p)] V fun e w'=>e= .returned (.bool (scMay x))∧ScX w w' (scP x p):=fun V hV=>(scmay_any x p V (h.below hV.bel) (by omega)).mono fun e w' h=>⟨h.1,hV.below h.2⟩
   have hps:∀V q,ScX w V (scP x p)→ScArg V x q→Calls Tryz.prog 13 #[.agg (scP x p), .agg (scP x q)] V fun e w'=>e= .returned (.bool true)∧ScX w w' (scP x p):=fun V q hV hq=>(scsame_any x.1 x.2 x.2 p q V (h.below hV.bel) hq hz (by omega) (by omega) (fun _=>rfl)).mono fun e w' h=>⟨by rw [h.1,decide_eq_true rfl],hV.below h.2⟩
   have hrs:∀V q,ScX w V (scP x p)→ScArg V x q→Calls Tryz.prog 12 #[.agg (scP x p), .agg (scP x q)] V fun e w'=>e= .returned (.bool true)∧Below V.heap.size V w':=fun V q hV hq=>rscsame_any x.1 x.2 p q V (h.below hV.bel) hq hz (by omega)
   have hback:scMay x=true→(printSc x).2=0→parseSc (printSc x).1=(x,0,0):=fun hm he=>script_back hm (by
    rw [printsc_yes hm] at he ⊢
    rw [←he])
   have hno:= @printsc_no x
   have hyes:scMay x=true→(printSc x).2≠1:=fun hm=>by
    rw [printsc_yes hm]
    exact sc_joined hm
   have hpa:=fun V=>scparse_any ⟨(printSc x).1.toArray⟩ V
   obtain⟨⟨t,pe⟩,hpr⟩:∃P,printSc x=P:=⟨_,rfl⟩
   obtain⟨M,hM⟩:∃M,scMay x=M:=⟨_,rfl⟩
   obtain⟨sx,hsx⟩:∃sx:ByteArray,⟨t.toArray⟩=sx:=⟨_,rfl⟩
   simp only [hpr,hsx] at hpp hrp hback hno hyes hpa
   simp only [hM] at hmy hback hno hyes
   unfold ParseScP at hpa
   have hss:(sx.toList != sx.toList)=false:=by simp
   have hpe:(pe != pe)=false:=by simp
   rw [hsm] at hsa
   obtain⟨⟨c,g,gs,ls,ps⟩,acs⟩:=x
   obtain⟨ag,bg,og,cg,al,bl,ol,cl,ap,bp,op,cp,aa,ba,oa,ca⟩:=p
   obtain⟨ng,hng⟩:∃n,gs.length=n:=⟨_,rfl⟩
   obtain⟨nl,hnl⟩:∃n,ls.length=n:=⟨_,rfl⟩
   obtain⟨np,hnp⟩:∃n,ps.length=n:=⟨_,rfl⟩
   obtain⟨na,hna⟩:∃n,acs.length=n:=⟨_,rfl⟩
   simp only [scP,stP,stC,hng,hnl,hnp,hna] at HX0 haw hsa hpp hrp hmy hps hrs hpa hlen ⊢
   have gl:¬(60:Int) < na:=by omega
   have HAW:=xhd haw
   have HSA:=xhd hsa
   have HPP:=xhd hpp
   have HRP:=xhd hrp
   have HMY:=xhd hmy
   have HPS:=xhd hps
   have HRS:=xhd hrs
   cases M with
   |false=>
    have he:=hno rfl
    injection he with he1 he2
    subst he2
    clear haw hsa hpp hrp hmy hps hrs hpa hback hno hyes hpr hM hsx hng hnl hnp hna h hs hT hz hsm he1 HPS HRS hlen
    go_enter Tryz.func3,Tryz.ntmps3
    go_wp2_with fail
    with_reducible refine (HAW.out _ HX0.out).mono ?_
    rintro e w1 ⟨rfl,k⟩
    obtain⟨c0,c1,c2,c3,c4,c5⟩:=six_cells k.box
    have HK1:=xhd k
    clear k
    go_wp2_with fail
    with_reducible refine (HSA.out _ HK1.out).mono ?_
    rintro e w2 ⟨rfl,k⟩
    clear c0 c1 c2 c3 c4 c5
    obtain⟨c0,c1,c2,c3,c4,c5⟩:=six_cells k.box
    have HK2:=xhd k
    clear k
    go_wp2_with fail
    with_reducible refine (HPP.out _ HK2.out).mono ?_
    rintro e w3 ⟨rfl,k⟩
    clear c0 c1 c2 c3 c4 c5
    obtain⟨c0,c1,c2,c3,c4,c5⟩:=six_cells k.box
    have HK3:=xhd k
    clear k
    go_wp2_with fail
    with_reducible refine (HRP.out _ HK3.out).mono ?_
    rintro e w4 ⟨rfl,k⟩
    clear c0 c1 c2 c3 c4 c5
    obtain⟨c0,c1,c2,c3,c4,c5⟩:=six_cells k.box
    have HK4:=xhd k
    clear k
    go_wp2_with fail
    with_reducible refine (HMY.out _ HK4.out).mono ?_
    rintro e w5 ⟨rfl,k⟩
    clear c0 c1 c2 c3 c4 c5
    obtain⟨c0,c1,c2,c3,c4,c5⟩:=six_cells k.box
    have HK5:=xhd k
    clear k
    go_wp2
    go_ret
    exact⟨rfl,HK5.out.bel⟩
   |true=>
    by_cases he:pe=0
    ·subst he
     simp only [hback rfl rfl,hng,hnl,hnp,hna] at hpa
     have HPA:=xhd hpa
     clear haw hsa hpp hrp hmy hps hrs hpa hback hno hyes hpr hM hsx hng hnl hnp hna h hs hT hz hsm hlen
     go_enter Tryz.func3,Tryz.ntmps3
     go_wp2_with fail
     with_reducible refine (HAW.out _ HX0.out).mono ?_
     rintro e w1 ⟨rfl,k⟩
     obtain⟨c0,c1,c2,c3,c4,c5⟩:=six_cells k.box
     have HK1:=xhd k
     clear k
     go_wp2_with fail
     with_reducible refine (HSA.out _ HK1.out).mono ?_
     rintro e w2 ⟨rfl,k⟩
     clear c0 c1 c2 c3 c4 c5
     obtain⟨c0,c1,c2,c3,c4,c5⟩:=six_cells k.box
     have HK2:=xhd k
     clear k
     go_wp2_with fail
     with_reducible refine (HPP.out _ HK2.out).mono ?_
     rintro e w3 ⟨rfl,k⟩
     clear c0 c1 c2 c3 c4 c5
     obtain⟨c0,c1,c2,c3,c4,c5⟩:=six_cells k.box
     have HK3:=xhd k
     clear k
     go_wp2_with fail
     with_reducible refine (HRP.out _ HK3.out).mono ?_
     rintro e w4 ⟨rfl,k⟩
     clear c0 c1 c2 c3 c4 c5
     obtain⟨c0,c1,c2,c3,c4,c5⟩:=six_cells k.box
     have HK4:=xhd k
     clear k
     go_wp2_with fail
     with_reducible refine (HMY.out _ HK4.out).mono ?_
     rintro e w5 ⟨rfl,k⟩
     clear c0 c1 c2 c3 c4 c5
     obtain⟨c0,c1,c2,c3,c4,c5⟩:=six_cells k.box
     have HK5:=xhd k
     clear k
     go_wp2_with fail
     refine (HPA.out _).mono ?_
     rintro e w6 ⟨⟨ag',bg',og',cg',al',bl',ol',cl',ap',bp',op',cp',aa',ba',oa',ca'⟩,rfl,hsc,hb⟩
     simp only
     have hbx:Below w6.heap.size w6 (w6.alloc (.cells #[.int .i64 c, .int .i64 g, .slice ag' ng cg', .slice al' nl cl', .slice ap' np cp', .slice aa' na ca'] 29)):=(Below.refl _ w6).alloc (Nat.le_refl _) _
     have HK6:=xhd (HK5.out.below hb)
     have HY:=xhd (heap_alloc_new w6 (.cells #[.int .i64 c, .int .i64 g, .slice ag' ng cg', .slice al' nl cl', .slice ap' np cp', .slice aa' na ca'] 29))
     have HK7:=xhd (HK6.out.below hbx)
     have HSC:=xhd (hsc.below hbx)
     have HRS7:=xhd (HRS.out _ _ HK7.out HSC.out)
     clear c0 c1 c2 c3 c4 c5
     obtain⟨c0,c1,c2,c3,c4,c5⟩:=six_cells HK6.out.box
     have hl6:=lt_of_block HK6.out.box
     clear hb hbx hsc
     go_wp2_with fail
     with_reducible refine HRS7.out.mono ?_
     rintro e w8 ⟨rfl,hb⟩
     have HK8:=xhd (HK7.out.below hb)
     have HPS8:=xhd (HPS.out _ _ HK8.out (HSC.out.below hb))
     clear c0 c1 c2 c3 c4 c5 hl6
     obtain⟨c0,c1,c2,c3,c4,c5⟩:=six_cells HK8.out.box
     obtain⟨y0,y1,y2,y3,y4,y5⟩:=six_cells ((hb.block _ (lt_of_block HY.out)).trans HY.out)
     clear hb
     go_wp2_with fail
     with_reducible refine HPS8.out.mono ?_
     rintro e w9 ⟨rfl,k⟩
     have HK9:=xhd k
     clear k c0 c1 c2 c3 c4 c5 y0 y1 y2 y3 y4 y5
     go_wp2
     go_ret
     exact⟨rfl,HK9.out.bel⟩
    ·have e1:(pe != 1)=true:=by simpa using hyes rfl
     have e0:(pe != 0)=true:=by simpa using he
     clear haw hsa hpp hrp hmy hps hrs hpa hback hno hyes hpr hM hsx hng hnl hnp hna h hs hT hz hsm he HPS HRS hlen
     go_enter Tryz.func3,Tryz.ntmps3
     go_wp2_with fail
     with_reducible refine (HAW.out _ HX0.out).mono ?_
     rintro e w1 ⟨rfl,k⟩
     obtain⟨c0,c1,c2,c3,c4,c5⟩:=six_cells k.box
     have HK1:=xhd k
     clear k
     go_wp2_with fail
     with_reducible refine (HSA.out _ HK1.out).mono ?_
     rintro e w2 ⟨rfl,k⟩
     clear c0 c1 c2 c3 c4 c5
     obtain⟨c0,c1,c2,c3,c4,c5⟩:=six_cells k.box
     have HK2:=xhd k
     clear k
     go_wp2_with fail
     with_reducible refine (HPP.out _ HK2.out).mono ?_
     rintro e w3 ⟨rfl,k⟩
     clear c0 c1 c2 c3 c4 c5
     obtain⟨c0,c1,c2,c3,c4,c5⟩:=six_cells k.box
     have HK3:=xhd k
     clear k
     go_wp2_with fail
     with_reducible refine (HRP.out _ HK3.out).mono ?_
     rintro e w4 ⟨rfl,k⟩
     clear c0 c1 c2 c3 c4 c5
     obtain⟨c0,c1,c2,c3,c4,c5⟩:=six_cells k.box
     have HK4:=xhd k
     clear k
     go_wp2_with fail
     with_reducible refine (HMY.out _ HK4.out).mono ?_
     rintro e w5 ⟨rfl,k⟩
     clear c0 c1 c2 c3 c4 c5
     obtain⟨c0,c1,c2,c3,c4,c5⟩:=six_cells k.box
     have HK5:=xhd k
     clear k
     go_wp2
     go_ret
     exact⟨rfl,HK5.out.bel⟩
  ·have hsm:smallS x.1=false:=by simpa using hsm
   rw [hsm] at hsa
   have HAW:=xhd haw
   have HSA:=xhd hsa
   obtain⟨⟨c,g,gs,ls,ps⟩,acs⟩:=x
   obtain⟨ag,bg,og,cg,al,bl,ol,cl,ap,bp,op,cp,aa,ba,oa,ca⟩:=p
   obtain⟨ng,hng⟩:∃n,gs.length=n:=⟨_,rfl⟩
   obtain⟨nl,hnl⟩:∃n,ls.length=n:=⟨_,rfl⟩
   obtain⟨np,hnp⟩:∃n,ps.length=n:=⟨_,rfl⟩
   obtain⟨na,hna⟩:∃n,acs.length=n:=⟨_,rfl⟩
   simp only [scP,stP,stC,hng,hnl,hnp,hna] at HX0 HAW HSA ⊢
   clear haw hsa hng hnl hnp hna h hs hT hsm hlen
   go_enter Tryz.func3,Tryz.ntmps3
   go_wp2_with fail
   with_reducible refine (HAW.out _ HX0.out).mono ?_
   rintro e w1 ⟨rfl,k⟩
   obtain⟨c0,c1,c2,c3,c4,c5⟩:=six_cells k.box
   have HK1:=xhd k
   clear k
   go_wp2_with fail
   with_reducible refine (HSA.out _ HK1.out).mono ?_
   rintro e w2 ⟨rfl,k⟩
   clear c0 c1 c2 c3 c4 c5
   obtain⟨c0,c1,c2,c3,c4,c5⟩:=six_cells k.box
   have HK2:=xhd k
   clear k
   go_wp2
   go_ret
   exact⟨rfl,HK2.out.bel⟩
 ·by_cases hsm:smallS x.1=true
  ·have gl:(60:Int) < x.2.length:=by omega
   rw [hsm] at hsa
   have HAW:=xhd haw
   have HSA:=xhd hsa
   obtain⟨⟨c,g,gs,ls,ps⟩,acs⟩:=x
   obtain⟨ag,bg,og,cg,al,bl,ol,cl,ap,bp,op,cp,aa,ba,oa,ca⟩:=p
   obtain⟨ng,hng⟩:∃n,gs.length=n:=⟨_,rfl⟩
   obtain⟨nl,hnl⟩:∃n,ls.length=n:=⟨_,rfl⟩
   obtain⟨np,hnp⟩:∃n,ps.length=n:=⟨_,rfl⟩
   obtain⟨na,hna⟩:∃n,acs.length=n:=⟨_,rfl⟩
   simp only [scP,stP,stC,hng,hnl,hnp,hna] at HX0 HAW HSA gl ⊢
   clear haw hsa hng hnl hnp hna h hs hT hsm hlen
   go_enter Tryz.func3,Tryz.ntmps3
   go_wp2_with fail
   with_reducible refine (HAW.out _ HX0.out).mono ?_
   rintro e w1 ⟨rfl,k⟩
   obtain⟨c0,c1,c2,c3,c4,c5⟩:=six_cells k.box
   have HK1:=xhd k
   clear k
   go_wp2_with fail
   with_reducible refine (HSA.out _ HK1.out).mono ?_
   rintro e w2 ⟨rfl,k⟩
   clear c0 c1 c2 c3 c4 c5
   obtain⟨c0,c1,c2,c3,c4,c5⟩:=six_cells k.box
   have HK2:=xhd k
   clear k
   go_wp2
   go_ret
   exact⟨rfl,HK2.out.bel⟩
  ·have hsm:smallS x.1=false:=by simpa using hsm
   rw [hsm] at hsa
   have HAW:=xhd haw
   have HSA:=xhd hsa
   obtain⟨⟨c,g,gs,ls,ps⟩,acs⟩:=x
   obtain⟨ag,bg,og,cg,al,bl,ol,cl,ap,bp,op,cp,aa,ba,oa,ca⟩:=p
   obtain⟨ng,hng⟩:∃n,gs.length=n:=⟨_,rfl⟩
   obtain⟨nl,hnl⟩:∃n,ls.length=n:=⟨_,rfl⟩
   obtain⟨np,hnp⟩:∃n,ps.length=n:=⟨_,rfl⟩
   obtain⟨na,hna⟩:∃n,acs.length=n:=⟨_,rfl⟩
   simp only [scP,stP,stC,hng,hnl,hnp,hna] at HX0 HAW HSA ⊢
   clear haw hsa hng hnl hnp hna h hs hT hsm hlen
   go_enter Tryz.func3,Tryz.ntmps3
   go_wp2_with fail
   with_reducible refine (HAW.out _ HX0.out).mono ?_
   rintro e w1 ⟨rfl,k⟩
   obtain⟨c0,c1,c2,c3,c4,c5⟩:=six_cells k.box
   have HK1:=xhd k
   clear k
   go_wp2_with fail
   with_reducible refine (HSA.out _ HK1.out).mono ?_
   rintro e w2 ⟨rfl,k⟩
   clear c0 c1 c2 c3 c4 c5
   obtain⟨c0,c1,c2,c3,c4,c5⟩:=six_cells k.box
   have HK2:=xhd k
   clear k
   go_wp2
   go_ret
   exact⟨rfl,HK2.out.bel⟩
end Go.Proofs.YtbnhnnccioljhaaGreatDoor
