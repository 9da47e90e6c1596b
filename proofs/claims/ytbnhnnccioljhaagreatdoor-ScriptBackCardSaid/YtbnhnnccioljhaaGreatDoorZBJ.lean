/-
  The program's Parse of setups.
-/
import Derived.Test.YtbnhnnccioljhaaGreatDoorZBH
import Derived.Test.YtbnhnnccioljhaaGreatDoorZAZ
import Derived.Test.YtbnhnnccioljhaaGreatDoorZBI
import Derived.Test.YtbnhnnccioljhaaGreatDoorZAl
set_option maxRecDepth 100000
set_option maxHeartbeats 25600000
namespace Go.Proofs.YtbnhnnccioljhaaGreatDoor
open Go.RowKit
theorem locksS_len (L:List Wd):∀(n:Nat) (s:Rd) (ls:List Lk),(locksS L n s ls).1.length≤ls.length+n
 |0,_,_=>by simp [locksS]
 |n+1,s,ls=>by
  unfold locksS
  split
  ·split
   ·show ls.length≤ls.length+(n+1)
    omega
   ·refine Nat.le_trans (locksS_len L n _ _) ?_
    simp
    omega
  ·show ls.length≤ls.length+(n+1)
   omega
def outQ (R:StpN) (s:Rd):Stp×Int×Int:=
 if s.2≠0 then (noneS,s.1,s.2) else match unfitS R.2.2.2.1 R.2.2.2.2.length R.2.2.2.2 with
 |some e=>(noneS,e.1,e.2)
 |none=>((R.1,R.2.1,R.2.2.1,R.2.2.2.1,R.2.2.2.2.map (·.1)),s.1,0)
theorem parseS_in {L:List Wd} {a:Nat} (ha:a≤L.length):parseS L a=outQ (readQ L (a,0)).1 (readQ L (a,0)).2:=by
 unfold parseS
 rw [if_neg (by omega)]
 rfl
structure PrI (w V:World) (B:Nat) (ao:Option Addr) (cap:Nat) (L:List Wd) (s:Rd) (X:Array Value) (T:Nat):Prop where
 rd:V.heap[B]?=some (.cells (rdC ao L.length cap s.1 s.2) 116 (0,0))
 res:V.heap[w.heap.size]?=some (.cells zeroSt 26 (0,0))
 st:V.heap[T]?=some (.cells X 26 (0,0))
 bel:Below w.heap.size w V
theorem PrI.below {w V V':World} {B:Nat} {ao:Option Addr} {cap:Nat} {L:List Wd} {s:Rd} {X:Array Value} {T:Nat} (h:PrI w V B ao cap L s X T) (hb:Below V.heap.size V V'):PrI w V' B ao cap L s X T:=
 ⟨(hb.block _ (lt_of_block h.rd)).trans h.rd,(hb.block _ (lt_of_block h.res)).trans h.res,(hb.block _ (lt_of_block h.st)).trans h.st,h.bel.trans (hb.mono h.bel.size)⟩
theorem parse_stored {w V:World} {a b c d e:Value} (h:V.heap[w.heap.size]?=some (.cells zeroSt 26 (0,0))) (hb:Below w.heap.size w V):
  (((((V.setCell ⟨w.heap.size,0,none⟩ a).setCell ⟨w.heap.size,1,none⟩ b).setCell ⟨w.heap.size,2,none⟩ c).setCell ⟨w.heap.size,3,none⟩ d).setCell ⟨w.heap.size,4,none⟩ e).heap[w.heap.size]?=some (.cells #[a,b,c,d,e] 26 (0,0))∧
  Below w.heap.size w (((((V.setCell ⟨w.heap.size,0,none⟩ a).setCell ⟨w.heap.size,1,none⟩ b).setCell ⟨w.heap.size,2,none⟩ c).setCell ⟨w.heap.size,3,none⟩ d).setCell ⟨w.heap.size,4,none⟩ e):=
 ⟨st_five h,((((hb.setCell (Nat.le_refl _) _).setCell (Nat.le_refl _) _).setCell (Nat.le_refl _) _).setCell (Nat.le_refl _) _).setCell (Nat.le_refl _) _⟩
theorem sarg_of_rows {base:Nat} {V:World} {vg vl vp:Value} {c g:Int} {gs:List Int} {ls:List Lk} {xs:List (Prg×Value)} (h1:GRow base V vg gs) (h2:LkRow base V vl ls) (h3:PRow base V vp xs) (h4:∀x ∈ xs,ORow base V x.2 x.1.2):
  ∃ag bg cg al bl cl ap bp cp,vg= .slice ag gs.length cg∧vl= .slice al ls.length cl∧vp= .slice ap xs.length cp∧SArg V (c,g,gs,ls,xs.map (·.1)) ag bg 0 al bl 0 ap bp 0:=by
 obtain⟨ag,bg,cg,e1,k1⟩:=IArg.of_row h1
 obtain⟨al,bl,cl,e2,k2⟩:=LArg.of_row h2
 obtain⟨ap,bp,cp,e3,k3⟩:=GArg.of_row h3 h4
 exact⟨ag,bg,cg,al,bl,cl,ap,bp,cp,e1,e2,e3,k1,k2,k3⟩
structure RwsI (base:Nat) (V:World) (vg vl vp vq:Value) (gs:List Int) (ls:List Lk) (xs:List (Prg×Value)) (qs:List Int):Prop where
 g:GRow base V vg gs
 l:LkRow base V vl ls
 p:PRow base V vp xs
 o:∀x ∈ xs,ORow base V x.2 x.1.2
 q:GRow base V vq qs
theorem RwsI.same {base:Nat} {V V':World} {vg vl vp vq:Value} {gs:List Int} {ls:List Lk} {xs:List (Prg×Value)} {qs:List Int} (h:RwsI base V vg vl vp vq gs ls xs qs) (hs:∀k,base≤k→k < V.heap.size→V'.heap[k]?=V.heap[k]?):RwsI base V' vg vl vp vq gs ls xs qs:=by
 have hrow:∀(e:TypeId) (size n:Nat) (u:Value) (ys:List Value),V.ownsRow base e size u n ys→V'.ownsRow base e size u n ys:=fun e size n u ys hu=>ownsRow_same hu fun k hk hl=>hs k (row_own hu k (by simpa using hk)) hl
 exact⟨hrow _ _ _ _ _ h.g,hrow _ _ _ _ _ h.l,hrow _ _ _ _ _ h.p,fun x hx=>hrow _ _ _ _ _ (h.o x hx),hrow _ _ _ _ _ h.q⟩
theorem RwsI.arg {base:Nat} {V:World} {ag al ap:Option Addr} {ng cg nl cl np cp:Nat} {vq:Value} {gs:List Int} {ls:List Lk} {xs:List (Prg×Value)} {qs:List Int} (h:RwsI base V (.slice ag ng cg) (.slice al nl cl) (.slice ap np cp) vq gs ls xs qs) (c g:Int):
  ∃bg bl bp,SArg V (c,g,gs,ls,xs.map (·.1)) ag bg 0 al bl 0 ap bp 0:=by
 obtain⟨ag',bg,cg',al',bl,cl',ap',bp,cp',e1,e2,e3,hs⟩:=sarg_of_rows (c:=c) (g:=g) h.g h.l h.p h.o
 injection e1 with e1
 injection e2 with e2
 injection e3 with e3
 subst e1 e2 e3
 exact⟨bg,bl,bp,hs⟩
theorem RwsI.kept {base:Nat} {V:World} {ag al ap:Option Addr} {ng cg nl cl np cp:Nat} {vq:Value} {gs:List Int} {ls:List Lk} {xs:List (Prg×Value)} {qs:List Int} (h:RwsI base V (.slice ag ng cg) (.slice al nl cl) (.slice ap np cp) vq gs ls xs qs) (c g:Int):SKept base V (c,g,gs,ls,xs.map (·.1)) ag (blkOf ag) 0 al (blkOf al) 0 ap (blkOf ap) 0:=skept_of_rows h.g h.l h.p h.o
theorem grow_at {base:Nat} {V:World} {ao:Option Addr} {n cap:Nat} {qs:List Int} (h:GRow base V (.slice ao n cap) qs) {j:Nat} (hj:j < qs.length):∃q,ao=some ⟨q,0,none⟩∧base≤q∧q < V.heap.size∧V.cell? ⟨q,j,none⟩=some (.int .i64 qs[j])∧n=qs.length:=by
 obtain⟨a,b,c,hv,ha⟩:=IArg.of_row h
 obtain⟨hb,hl⟩:=ha.at_ (by omega)
 have hc:=ha.cells j hj
 rw [Nat.zero_add] at hc
 injection hv with e1 e2 e3
 subst hb
 refine⟨b,e1,?_,hl,hc,e2⟩
 exact row_own h b (by rw [e1];rfl)
theorem parse_gen (ao:Option Addr) (bw off cap:Nat) (L:List Wd) (a:Nat) (e0:Int) (vs iat:Value) (w:World) (h:WArg w ao bw off L) (hm:L.length≤100000) (ha:a≤L.length) (hL:Clean L)
  (hread:∀w,Calls Tryz.prog 27 #[vs,iat] w fun r w'=>r= .returned (.pointer (some ⟨w.heap.size,0,none⟩))∧w'=w.alloc (.cells (rdC ao L.length cap a e0) 116)):
  Calls Tryz.prog 29 #[vs,iat] w (ParseSK (outQ (readQ L (a,e0)).1 (readQ L (a,e0)).2) w):=by
 have HF:Hid (RwI ((w.alloc (.cells zeroSt 26)).alloc (.cells (rdC ao L.length cap a e0) 116)) (w.heap.size+1) ao bw off cap L (a,e0)∧((w.alloc (.cells zeroSt 26)).alloc (.cells (rdC ao L.length cap a e0) 116)).heap[w.heap.size]?=some (.cells zeroSt 26 (0,0))∧Below w.heap.size w ((w.alloc (.cells zeroSt 26)).alloc (.cells (rdC ao L.length cap a e0) 116))∧((w.alloc (.cells zeroSt 26)).alloc (.cells (rdC ao L.length cap a e0) 116)).heap.size=w.heap.size+2):=xhd (by
  have hb:Below w.heap.size w ((w.alloc (.cells zeroSt 26)).alloc (.cells (rdC ao L.length cap a e0) 116)):=((Below.refl _ w).alloc (Nat.le_refl _) _).alloc (by simp) _
  have h2:=heap_alloc_new (w.alloc (.cells zeroSt 26)) (.cells (rdC ao L.length cap a e0) 116)
  rw [World.size_alloc] at h2
  exact⟨⟨h2,h.below hb,fun h0=>by have:=(h.at_ h0).2;omega,ha,hm⟩,(Below.heap_alloc _ _ _ (by simp)).trans (heap_alloc_new w _),hb,by simp⟩)
 have HRD:=xhd (hread (w.alloc (.cells zeroSt 26)))
 have HRS:=xhd (fun V (hV:RwI V (w.heap.size+1) ao bw off cap L (a,e0))=>readsetup_any hV hL)
 obtain⟨⟨Q,s'⟩,hQ⟩:∃Q,readQ L (a,e0)=Q:=⟨_,rfl⟩
 have HQL:Hid (Q.2.2.2.1.length≤10):=xhd (by
  have h1:Q=(readQ L (a,e0)).1:=by rw [hQ]
  rw [h1]
  unfold readQ
  exact Nat.le_trans (locksS_len L 10 _ _) (by simp))
 unfold RSetP at HRS
 simp only [hQ] at HRS ⊢
 obtain⟨rc,hrc⟩:∃rc,Obj.cells (rdC ao L.length cap a e0) 116=rc:=⟨_,rfl⟩
 have HMET:=xhd (fun (V:World) (hV:V.heap[w.heap.size+1]?=some (.cells (rdC ao L.length cap s'.1 s'.2) 116 (0,0)))=>met_any hV)
 rw [hrc] at HF HRD
 clear h hm ha hL hread hQ hrc
 go_enter Tryz.func29,Tryz.ntmps29
 go_wp2_with fail
 with_reducible refine HRD.out.mono ?_
 rintro r w1 ⟨rfl,rfl⟩
 have HW1:Hid (∃W,(w.alloc (.cells zeroSt 26)).alloc rc=W):=⟨_,rfl⟩
 go_wp2_with fail
 obtain⟨W1,hW1⟩:=HW1.out
 rw [hW1] at HF
 simp only [hW1]
 clear hW1 HW1 HRD
 refine (HRS.out _ HF.out.1).mono ?_
 rintro r w2 ⟨vg,vl,vp,vq,R,xs,s2,rfl,k1,k2,k3,k4,k5,k6,k7,hmap,rfl,hR,hpl⟩
 obtain⟨ag,cg,rfl,_⟩:=ownsRow_shape k1
 obtain⟨al,cl,rfl,_⟩:=ownsRow_shape k2
 obtain⟨ap,cp,rfl,_⟩:=ownsRow_shape k3
 obtain⟨avq,cvq,hvq,_⟩:=ownsRow_shape k5
 rw [List.length_map] at hvq
 subst hvq
 have HSA:Hid (RwsI _ w2 _ _ _ _ _ _ _ _):=xhd ⟨k1,k2,k3,k4,k5⟩
 have hb2:Below w.heap.size w w2:=HF.out.2.2.1.trans (k7.below (by simp) HF.out.2.2.1.size)
 have HI2:Hid (PrI w (w2.alloc (.cells #[.int .i64 R.1, .int .i64 R.2.1, .slice ag R.2.2.1.length cg, .slice al R.2.2.2.1.length cl, .slice ap xs.length cp] 26)) (w.heap.size+1) ao cap L s2 #[.int .i64 R.1, .int .i64 R.2.1, .slice ag R.2.2.1.length cg, .slice al R.2.2.2.1.length cl, .slice ap xs.length cp] w2.heap.size):=xhd (by
  have hbl:Below w2.heap.size w2 (w2.alloc (.cells #[.int .i64 R.1, .int .i64 R.2.1, .slice ag R.2.2.1.length cg, .slice al R.2.2.2.1.length cl, .slice ap xs.length cp] 26)):=(Below.refl _ _).alloc (Nat.le_refl _) _
  exact⟨(hbl.block _ (lt_of_block k6.rd)).trans k6.rd,(hbl.block _ (by have:=lt_of_block k6.rd;omega)).trans (k7.same HF.out.2.1 (by simp)),heap_alloc_new _ _,hb2.trans (hbl.mono hb2.size)⟩)
 have HR:=xhd hR
 have HMP:=xhd hmap
 have HPL:=xhd hpl
 have HTL:=xhd (lt_of_block k6.rd)
 have hxl:xs.length=R.2.2.2.2.length:=by
  have:=congrArg List.length hmap
  simpa using this
 have HXL:=xhd hxl
 clear k1 k2 k3 k4 k5 k6 k7 hR hmap hpl hb2
 obtain⟨c,g,gs,ls,ps⟩:=R
 simp only at HSA HR HMP HPL HI2 HXL hxl ⊢
 obtain⟨ng,hng⟩:∃n,gs.length=n:=⟨_,rfl⟩
 obtain⟨nl,hnl⟩:∃n,ls.length=n:=⟨_,rfl⟩
 obtain⟨np,hnp⟩:∃n,ps.length=n:=⟨_,rfl⟩
 have HNG:=xhd hng
 have HNL:=xhd hnl
 have HNP:=xhd hnp
 rw [hxl] at HI2 HSA ⊢
 rw [hng,hnl,hnp] at HI2 HSA ⊢
 rw [HF.out.2.2.2] at HSA
 clear hng hnl hnp hxl
 have HW3:Hid (∃W,w2.alloc (.cells #[.int .i64 c, .int .i64 g, .slice ag ng cg, .slice al nl cl, .slice ap np cp] 26)=W):=⟨_,rfl⟩
 go_wp2_with fail
 obtain⟨W3,hW3⟩:=HW3.out
 have HB3:Hid (Below w2.heap.size w2 W3):=xhd (by rw [←hW3];exact (Below.refl _ _).alloc (Nat.le_refl _) _)
 rw [hW3] at HI2
 simp only [hW3]
 clear hW3 HW3
 with_reducible refine (HMET.out _ HI2.out.rd).mono ?_
 rintro r w4 ⟨rfl,q,hw4⟩
 have hb4:Below W3.heap.size W3 w4:=by rw [hw4];exact below_drewN (Below.refl _ _) q
 have HI4:=xhd (HI2.out.below hb4)
 have HB4:=xhd (HB3.out.trans (hb4.mono HB3.out.size))
 clear hw4 hb4
 obtain⟨z0,z1,z2,z3,z4⟩:=st_cells HI4.out.res
 have fz0:=not_frozen HI4.out.res 0
 have fz1:=not_frozen HI4.out.res 1
 have fz2:=not_frozen HI4.out.res 2
 have fz3:=not_frozen HI4.out.res 3
 have fz4:=not_frozen HI4.out.res 4
 by_cases he:s2.2=0
 ·have he1:(s2.2 != 0)=false:=by simp [he]
  have HO:Hid (outQ Q s2=match unfitS ls np ps with|some e=>(noneS,(e.1:Int),e.2) |none=>((c,g,gs,ls,ps.map (·.1)),(s2.1:Int),0)):=xhd (by
   rw [←HR.out he]
   unfold outQ
   rw [if_neg (by simpa using he)]
   simp only [HNP.out])
  have HS4:=xhd (HSA.out.same (V':=w4) (fun k _ hl=>HB4.out.block k hl))
  obtain⟨bg,bl,bp,hsa⟩:=HS4.out.arg c g
  rw [HMP.out] at hsa
  have hlz:ls.length≤100000:=by
   have:=HQL.out
   rw [←HR.out he] at this
   simp only at this
   omega
  have hmf:=misfit_any (c,g,gs,ls,ps.map (·.1)) ag bg 0 cg al bl 0 cl ap bp 0 cp w4 hsa hlz (by simp only [List.length_map];have:=HPL.out;omega)
  simp only [List.length_map,HNG.out,HNL.out,HNP.out] at hmf
  obtain⟨⟨mi,me⟩,hM⟩:∃M,misS ls np (ps.map (·.1)) 0=M:=⟨_,rfl⟩
  have hun:=mis_unfit ls np ps 0
  rw [hM] at hmf hun
  simp only at hmf
  have HMF:=xhd hmf
  obtain⟨x0,x1,x2,x3,x4⟩:=st_cells HI4.out.st
  have hTl:=lt_of_block HI4.out.st
  clear hsa hlz hmf hM he
  cases hu:unfitS ls np ps with
  |none=>
   rw [hu] at hun HO
   simp only [Prod.mk.injEq] at hun HO
   obtain⟨rfl,rfl⟩:=hun
   clear hu
   go_wp2_with fail
   with_reducible refine HMF.out.mono ?_
   rintro r w5 ⟨rfl,hb5⟩
   have HI5:=xhd (HI4.out.below hb5)
   have HB5:=xhd (HB4.out.trans (hb5.mono HB4.out.size))
   clear hb5 x0 x1 x2 x3 x4 z0 z1 z2 z3 z4 fz0 fz1 fz2 fz3 fz4
   obtain⟨x0,x1,x2,x3,x4⟩:=st_cells HI5.out.st
   obtain⟨z0,z1,z2,z3,z4⟩:=st_cells HI5.out.res
   have fz0:=not_frozen HI5.out.res 0
   have fz1:=not_frozen HI5.out.res 1
   have fz2:=not_frozen HI5.out.res 2
   have fz3:=not_frozen HI5.out.res 3
   have fz4:=not_frozen HI5.out.res 4
   have ne1:w.heap.size≠w2.heap.size:=by have:=HTL.out;omega
   have HPS:=xhd (parse_stored (a:= .int .i64 c) (b:= .int .i64 g) (c:= .slice ag ng cg) (d:= .slice al nl cl) (e:= .slice ap np cp) HI5.out.res HI5.out.bel)
   go_wp2
   refine bodyPost_ret (st_res rfl rfl rfl rfl HPS.out.1) rfl ?_
   rw [HO.out]
   have hsa:=(HSA.out.same (V':=(((((w5.setCell ⟨w.heap.size,0,none⟩ (.int .i64 c)).setCell ⟨w.heap.size,1,none⟩ (.int .i64 g)).setCell ⟨w.heap.size,2,none⟩ (.slice ag ng cg)).setCell ⟨w.heap.size,3,none⟩ (.slice al nl cl)).setCell ⟨w.heap.size,4,none⟩ (.slice ap np cp))) (fun k hk hl=>(st_kept (by omega)).trans (HB5.out.block k hl))).kept c g
   rw [HMP.out] at hsa
   refine⟨ag,blkOf ag,0,cg,al,blkOf al,0,cl,ap,blkOf ap,0,cp,?_,hsa.mono (by omega),HPS.out.2⟩
   simp only [List.length_map,HNG.out,HNL.out,HNP.out]
   try rfl
  |some e=>
   rw [hu] at hun HO
   simp only at hun HO
   obtain⟨j,hj,hme,he1',he2⟩:=hun
   simp only [Prod.mk.injEq,Nat.zero_add] at hme
   obtain⟨rfl,rfl⟩:=hme
   have hme1:(e.2 != 0)=true:=by simpa using he2
   have HE1:=xhd he1'
   have HJ:=xhd hj
   clear hu he1' he2
   go_wp2_with fail
   with_reducible refine HMF.out.mono ?_
   rintro r w5 ⟨rfl,hb5⟩
   have HI5:=xhd (HI4.out.below hb5)
   have HB5:=xhd (HB4.out.trans (hb5.mono HB4.out.size))
   have HS5:=xhd (HSA.out.same (V':=w5) (fun k _ hl=>HB5.out.block k hl))
   clear hb5 x0 x1 x2 x3 x4 z0 z1 z2 z3 z4 fz0 fz1 fz2 fz3 fz4
   obtain⟨q,rfl,hq1,hq2,hq3, -⟩:=grow_at HS5.out.q (j:=mi) (by rw [List.length_map];exact HJ.out)
   rw [List.getElem_map, ←HE1.out] at hq3
   have HQ3:Hid (∀V:World,(∀k,k≠w.heap.size→V.heap[k]?=w5.heap[k]?)→V.cell? ⟨q,mi,none⟩=some (.int .i64 e.1)):=xhd (fun V hV=>by
    rw [←hq3]
    simp only [World.cell?,hV q (by omega)])
   have j0:(0:Int)≤mi:=by omega
   have j1:(mi:Int) < np:=by have:=HJ.out;have:=HNP.out;omega
   obtain⟨z0,z1,z2,z3,z4⟩:=st_cells HI5.out.res
   have fz0:=not_frozen HI5.out.res 0
   have fz1:=not_frozen HI5.out.res 1
   have fz2:=not_frozen HI5.out.res 2
   have fz3:=not_frozen HI5.out.res 3
   have fz4:=not_frozen HI5.out.res 4
   have HPS:=xhd (parse_stored (a:= .int .i64 0) (b:= .int .i64 0) (c:= .slice none 0 0) (d:= .slice none 0 0) (e:= .slice none 0 0) HI5.out.res HI5.out.bel)
   have s0:=HQ3.out w5.drew (fun _ _=>rfl)
   have s1:=HQ3.out ((((((w5.setCell ⟨w.heap.size,0,none⟩ (.int .i64 0)).setCell ⟨w.heap.size,1,none⟩ (.int .i64 0)).setCell ⟨w.heap.size,2,none⟩ (.slice none 0 0)).setCell ⟨w.heap.size,3,none⟩ (.slice none 0 0)).setCell ⟨w.heap.size,4,none⟩ (.slice none 0 0)).drew) (fun k hk=>st_kept (w:=w5) hk)
   rw [HNP.out] at*
   clear hq3
   go_wp2_with fail
   go_region_held3 (fun V=>V.cell? ⟨q,mi,none⟩=some (.int .i64 e.1))
    (first|with_reducible exact s0|with_reducible exact s1)
    (fail)
   clear s0 s1 z0 z1 z2 z3 z4 fz0 fz1 fz2 fz3 fz4
   go_wp2
   refine bodyPost_ret (st_res rfl rfl rfl rfl (show ((((((w5.setCell ⟨w.heap.size,0,none⟩ (.int .i64 0)).setCell ⟨w.heap.size,1,none⟩ (.int .i64 0)).setCell ⟨w.heap.size,2,none⟩ (.slice none 0 0)).setCell ⟨w.heap.size,3,none⟩ (.slice none 0 0)).setCell ⟨w.heap.size,4,none⟩ (.slice none 0 0)).drew).heap[w.heap.size]?=_ from HPS.out.1)) rfl ?_
   exact parse_badS HO.out HPS.out.2.drew
 ·have HO:Hid (outQ Q s2=(noneS,(s2.1:Int),s2.2)):=xhd (by unfold outQ;rw [if_pos he])
  have he1:(s2.2 != 0)=true:=by simpa using he
  clear he
  go_wp2
  have hps:=fun a b c d e=>parse_stored (a:=a) (b:=b) (c:=c) (d:=d) (e:=e) HI4.out.res HI4.out.bel
  refine bodyPost_ret (st_res rfl rfl rfl rfl (hps _ _ _ _ _).1) rfl ?_
  exact parse_badS HO.out (hps _ _ _ _ _).2
theorem psparse_kept (ao:Option Addr) (b off cap:Nat) (L:List Wd) (at_:Int) (w:World) (h:WArg w ao b off L) (hm:L.length≤100000) (hL:Clean L):
  Calls Tryz.prog 29 #[.slice ao L.length cap, .int .i64 at_] w (ParseSK (parseS L at_) w):=by
 by_cases hout:at_ < 0∨(L.length:Int) < at_
 ·have e:parseS L at_=outQ (readQ [] (0,5)).1 (readQ [] (0,5)).2:=by
    unfold parseS
    rw [if_pos hout,readQ_dead (L:=[]) (s:=(0,5)) (by show (5:Int)≠0;decide)]
    unfold outQ
    rw [if_pos (by show (5:Int)≠0;decide)]
    rfl
  rw [e]
  exact parse_gen none 0 0 0 [] 0 5 _ _ w (WArg.nil w 0 0) (by simp) (by simp) clean_nil (fun W=>pread_out ao L.length cap at_ W hout)
 ·obtain⟨a,rfl⟩:∃a:Nat,at_=a:=⟨at_.toNat,by omega⟩
  rw [parseS_in (by omega)]
  exact parse_gen ao b off cap L a 0 _ _ w h hm (by omega) hL (fun W=>pread_in ao L.length cap a W (by omega))
end Go.Proofs.YtbnhnnccioljhaaGreatDoor
