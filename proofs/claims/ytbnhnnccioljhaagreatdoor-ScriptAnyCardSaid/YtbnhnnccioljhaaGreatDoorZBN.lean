/-
  The document's Parse of setups. (Made by gen_ruparse.py.)
-/
import Derived.Test.YtbnhnnccioljhaaGreatDoorZBI
import Derived.Test.YtbnhnnccioljhaaGreatDoorZAD
import Derived.Test.YtbnhnnccioljhaaGreatDoorZAE
import Derived.Deep.CutRange
import Derived.Deep.CutBlock
import Derived.Deep.RegionHeld3
import Derived.Test.YtbnhnnccioljhaaGreatDoorZAl
set_option maxRecDepth 100000
set_option maxHeartbeats 25600000
namespace Go.Proofs.YtbnhnnccioljhaaGreatDoor
open Go.RowKit Go.Maps
theorem psi_start {w:World} {ao:Option Addr} {bw off cap:Nat} {L:List Wd} (h:WArg w ao bw off L) (hL:L.length≤100000) {a:Nat} (ha:a≤L.length):
  PsI w (((w.alloc (.cells zeroSt 26)).alloc (.cells (rsC ao L.length cap a 0) 130)).alloc (.cells zeroSt 26)) ao bw off cap L (a,0) 0 0 (.slice none 0 0) (.slice none 0 0) (.slice none 0 0) (.slice none 0 0) [] [] [] []:=by
 have h0:=heap_alloc_new w (.cells zeroSt 26)
 have h1:=heap_alloc_new (w.alloc (.cells zeroSt 26)) (.cells (rsC ao L.length cap a 0) 130)
 have h2:=heap_alloc_new ((w.alloc (.cells zeroSt 26)).alloc (.cells (rsC ao L.length cap a 0) 130)) (.cells zeroSt 26)
 simp only [World.size_alloc] at h1 h2
 have hb:Below w.heap.size w (((w.alloc (.cells zeroSt 26)).alloc (.cells (rsC ao L.length cap a 0) 130)).alloc (.cells zeroSt 26)):=(((Below.refl _ w).alloc (Nat.le_refl _) _).alloc (by simp) _).alloc (by simp;omega) _
 exact⟨⟨(Below.heap_alloc _ _ _ (by simp)).trans h1,h.below hb,fun h0=>by have:=(h.at_ h0).2;omega,ha,hL⟩,h2,(Below.heap_alloc _ _ _ (by simp;omega)).trans ((Below.heap_alloc _ _ _ (by simp)).trans h0),World.ownsRow_nil _ _ _ _,World.ownsRow_nil _ _ _ _,World.ownsRow_nil _ _ _ _,fun x hx=>by simp at hx,World.ownsRow_nil _ _ _ _,fun k hk=>by simp [Value.ownBlock] at hk,hb,fun h0=>(h.at_ h0).2⟩
theorem one_new (W:World) (a:Value) (t:TypeId):∀(j:Nat) (u:Value),[a][j]?=some u→(W.alloc (.cells #[a] t)).cell? ((⟨W.heap.size,0,none⟩:Addr).add j)=some u:=by
 intro j u hj
 rw [Addr.add_lit]
 match j,hj with
 |0,hj=>
  simp at hj
  subst hj
  simp
theorem long_is (p:Nat) (n most:Nat):longS (p,0) (n:Nat) (most:Nat)=(decide (most≤n),if most≤n then (p,6) else (p,0)):=by
 unfold longS
 by_cases h:most≤n
 ·rw [if_pos ⟨rfl,by omega⟩,if_pos h,decide_eq_true h]
 ·rw [if_neg (by omega),if_neg h,decide_eq_false h]
  simp
theorem two_at (w:World) (a b:Value) (t:TypeId):∀(j:Nat) (u:Value),[a,b][j]?=some u→((w.alloc (.cells #[a,b] t)).alloc (.cells #[a,b] t)).cell? ((⟨w.heap.size+1,0,none⟩:Addr).add j)=some u:=by
 intro j u hj
 rw [Addr.add_lit]
 have h:=heap_alloc_new (w.alloc (.cells #[a,b] t)) (.cells #[a,b] t)
 rw [World.size_alloc] at h
 match j,hj with
 |0,hj=>
  simp at hj
  subst hj
  exact (two_cells h).1
 |1,hj=>
  simp at hj
  subst hj
  exact (two_cells h).2
theorem st_stored {w W:World} {a b c d e:Value} (h:W.heap[w.heap.size]?=some (.cells #[a,b,c,d,e] 26 (0,0))) (hb:Below w.heap.size w W) (a' b' c' d' e':Value):
  (((((W.setCell ⟨w.heap.size,0,none⟩ a').setCell ⟨w.heap.size,1,none⟩ b').setCell ⟨w.heap.size,2,none⟩ c').setCell ⟨w.heap.size,3,none⟩ d').setCell ⟨w.heap.size,4,none⟩ e').heap[w.heap.size]?=some (.cells #[a',b',c',d',e'] 26 (0,0))∧
  Below w.heap.size w (((((W.setCell ⟨w.heap.size,0,none⟩ a').setCell ⟨w.heap.size,1,none⟩ b').setCell ⟨w.heap.size,2,none⟩ c').setCell ⟨w.heap.size,3,none⟩ d').setCell ⟨w.heap.size,4,none⟩ e'):=by
 have hn:w.heap.size≤w.heap.size:=Nat.le_refl _
 refine⟨?_,((((hb.setCell (p:=⟨w.heap.size,0,none⟩) hn _).setCell (p:=⟨w.heap.size,1,none⟩) hn _).setCell (p:=⟨w.heap.size,2,none⟩) hn _).setCell (p:=⟨w.heap.size,3,none⟩) hn _).setCell (p:=⟨w.heap.size,4,none⟩) hn _⟩
 rw [heap_setCell_same _ _ _ _ _ _ (heap_setCell_same _ _ _ _ _ _ (heap_setCell_same _ _ _ _ _ _ (heap_setCell_same _ _ _ _ _ _ (heap_setCell_same _ _ _ _ _ _ h))))]
 rfl
theorem unfit_first {locks:List Lk} {n:Int} :∀ {ps:List (Prg×Nat)} (i:Nat) (hi:i < ps.length),(∀j (hj:j < ps.length),j < i→(checkR (ps[j]).1 locks n).2=0)→(checkR (ps[i]).1 locks n).2≠0→unfitS locks n ps=some ((ps[i]).2,(checkR (ps[i]).1 locks n).2)
 |[],i,hi,_,_=>absurd hi (Nat.not_lt_zero _)
 |x::ps,0,_,_,h=>by
  unfold unfitS
  rw [if_neg (show ¬(checkR x.1 locks n).2=0 from h)]
  rfl
 |x::ps,i+1,hi,h0,h=>by
  unfold unfitS
  rw [if_pos (show (checkR x.1 locks n).2=0 from h0 0 (by simp) (by omega))]
  exact unfit_first i (by simpa using hi) (fun j hj hji=>h0 (j+1) (by simpa using hj) (by omega)) h
theorem row_set5 {w wr:World} {a b c d e:Value} {base:Nat} {ty:TypeId} {size n:Nat} {v:Value} {ys:List Value} (h:wr.ownsRow base ty size v n ys) (hB:w.heap.size < base):
  ((((((wr.setCell ⟨w.heap.size,0,none⟩ a).setCell ⟨w.heap.size,1,none⟩ b).setCell ⟨w.heap.size,2,none⟩ c).setCell ⟨w.heap.size,3,none⟩ d).setCell ⟨w.heap.size,4,none⟩ e).drew).ownsRow base ty size v n ys:=
 row_below (row_set (row_set (row_set (row_set (row_set h hB) hB) hB) hB) hB) ((Below.refl _ _).drew)
theorem PsI.answered {w wr:World} {ao:Option Addr} {bw off cap:Nat} {L:List Wd} {s:Rd} {c g:Int} {vg vl vp vq:Value} {gs:List Int} {ls:List Lk} {xs:List (Prg×Value)} {qs:List Int} (h:PsI w wr ao bw off cap L s c g vg vl vp vq gs ls xs qs) (a b d e f:Value):
  ∃(ag:Option Addr) (bg cg:Nat) (al:Option Addr) (bl cl:Nat) (ap:Option Addr) (bp cp:Nat),vg= .slice ag gs.length cg∧vl= .slice al ls.length cl∧vp= .slice ap xs.length cp∧
   SKept w.heap.size (((((wr.setCell ⟨w.heap.size,0,none⟩ a).setCell ⟨w.heap.size,1,none⟩ b).setCell ⟨w.heap.size,2,none⟩ d).setCell ⟨w.heap.size,3,none⟩ e).setCell ⟨w.heap.size,4,none⟩ f).drew (c,g,gs,ls,xs.map (·.1)) ag bg 0 al bl 0 ap bp 0:=by
 obtain⟨hg,hl,hp,ho⟩:=And.intro h.gr (And.intro h.lr (And.intro h.pr h.po))
 obtain⟨ag,cg,h1,_⟩:=ownsRow_shape hg
 obtain⟨al,cl,h2,_⟩:=ownsRow_shape hl
 obtain⟨ap,cp,h3,_⟩:=ownsRow_shape hp
 subst h1 h2 h3
 exact⟨ag,_,cg,al,_,cl,ap,_,cp,rfl,rfl,rfl,(skept_of_rows (row_set5 hg (by omega)) (row_set5 hl (by omega)) (row_set5 hp (by omega)) (fun x hx=>row_set5 (ho x hx) (by omega))).mono (by omega)⟩
theorem pg_one (f:Bool) (a:Option Addr) (n c:Nat):∀u ∈ [Value.bool f, .slice a n c],u.oneCell'=true:=by
 intro u hu
 simp only [List.mem_cons,List.not_mem_nil,or_false] at hu
 rcases hu with rfl|rfl<;>rfl
theorem rsparse_in (ao:Option Addr) (bw off cap:Nat) (L:List Wd) (a:Nat) (w:World) (h:WArg w ao bw off L) (hm:L.length≤100000) (ha:a≤L.length):
  Calls Tryz.prog 38 #[.slice ao L.length cap, .int .i64 a] w (ParseSK (parseS L a) w):=by
 obtain⟨gi,hgi,gz0,gz1,gz2⟩:=info_parts int_info
 obtain⟨li,hli,lz0,lz1,lz2⟩:=info_parts lock_info
 obtain⟨pi,hpi,pz0,pz1,pz2⟩:=info_parts prog_info
 have hmix:Tryz.prog.follows .mixedOrders=true:=by kernel_rfl
 have HP0:=xhd (psi_start (cap:=cap) h hm ha)
 have HWA:=xhd h
 have HF:=xhd (fun V (s:Rd) (hV:RsI V (w.heap.size+1) ao bw off cap L s) (name:ByteArray) (most:Int)=>rsfield_any hV name most)
 have HNE:=xhd (fun V (s:Rd) (hV:RsI V (w.heap.size+1) ao bw off cap L s)=>rsneed_any hV 3 ⟨#[59]⟩)
 have HIS:=xhd (fun V (s:Rd) (hV:RsI V (w.heap.size+1) ao bw off cap L s) (t:ByteArray)=>rsis_any hV 1 t)
 have HLO:=xhd (fun V (s:Rd) (hV:RsI V (w.heap.size+1) ao bw off cap L s) (n most:Int)=>rslong_any hV n most)
 have HLK:=xhd (fun V (s:Rd) (hV:RsI V (w.heap.size+1) ao bw off cap L s) (sh:Bool)=>rslock_any hV sh)
 obtain⟨R,hR⟩:∃R,parseS L (a:Nat)=R:=⟨_,rfl⟩
 rw [hR]
 have hR2:R=(let h:=headS L a;let r:=restS L h.2.2;if r.2.2.2.2≠0 then (noneS,((r.2.2.2.1:Nat):Int),r.2.2.2.2) else match unfitS r.2.1 r.2.2.1.length r.2.2.1 with
   |some e=>(noneS,((e.1:Nat):Int),e.2)
   |none=>((h.1,h.2.1,r.1,r.2.1,r.2.2.1.map (·.1)),((r.2.2.2.1:Nat):Int),0)):=by
  rw [←hR]
  unfold parseS
  rw [if_neg (by omega)]
  rfl
 have HR:=xhd hR2
 obtain⟨n,hn⟩:∃n,L.length=n:=⟨_,rfl⟩
 have HN:=xhd hn
 rw [hn] at HP0
 have HPG:Hid (∀V,WArg V ao bw off L→∀at_:Int,Calls Tryz.prog 80 #[.slice ao n cap, .int .i64 at_] V (ParseP (parseR L at_) V)):=xhd (fun V hV at_=>by
  have hx:=rparse_any ao bw off cap L at_ V hV hm
  rw [hn] at hx
  exact hx)
 have a0:¬(a:Int) < 0:=by omega
 have a1:¬(n:Int) < a:=by omega
 obtain⟨⟨c,s1⟩,e1⟩:∃x,fieldS L (a,0) coresB 4=x:=⟨_,rfl⟩
 obtain⟨s2,e2⟩:∃x,needS L s1 3 [59]=x:=⟨_,rfl⟩
 obtain⟨⟨g,s3⟩,e3⟩:∃x,fieldS L s2 grainB 8=x:=⟨_,rfl⟩
 obtain⟨s4,e4⟩:∃x,needS L s3 3 [59]=x:=⟨_,rfl⟩
 have hhead:headS L a=(c,g,s4):=by
  unfold headS
  simp only [e1,e2,e3,e4]
 have E1:=xhd e1
 have E2:=xhd e2
 have E3:=xhd e3
 have E4:=xhd e4
 have HH:=xhd hhead
 rw [hn]
 clear h hm ha hR hR2 hn e1 e2 e3 e4 hhead
 go_enter Tryz.func38,Tryz.ntmps38
 go_wp2_with fail
 have h1:=HF.out _ _ HP0.out.rd ⟨#[99,111,114,101,115]⟩ 4
 rw [show (⟨#[99,111,114,101,115]⟩:ByteArray).data.toList=coresB from rfl,E1.out] at h1
 refine h1.mono ?_
 rintro r w1 ⟨rfl,t1⟩
 have HP1:=xhd (HP0.out.read t1)
 obtain⟨c0,c1,c2,c3,c4,cf⟩:=five_cells HP1.out.st
 have cf0:=cf 0
 have HZ1:=xhd (HP1.out.stored (k:=0) (v:= .int .i64 c) (c':=c) (g':=0) rfl)
 clear h1 t1 cf
 go_wp2_with fail
 have h1:=HNE.out _ _ HZ1.out.rd
 refine h1.mono ?_
 rintro r w2 ⟨rfl,t1⟩
 change RsP _ _ _ _ _ _ (needS L s1 3 [59]) _ _ at t1
 rw [E2.out] at t1
 have HP2:=xhd (HZ1.out.read t1)
 clear h1 t1 c0 c1 c2 c3 c4 cf0
 go_wp2_with fail
 have h1:=HF.out _ _ HP2.out.rd ⟨#[103,114,97,105,110]⟩ 8
 rw [show (⟨#[103,114,97,105,110]⟩:ByteArray).data.toList=grainB from rfl,E3.out] at h1
 refine h1.mono ?_
 rintro r w3 ⟨rfl,t1⟩
 have HP3:=xhd (HP2.out.read t1)
 obtain⟨c0,c1,c2,c3,c4,cf⟩:=five_cells HP3.out.st
 have cf1:=cf 1
 have HZ3:=xhd (HP3.out.stored (k:=1) (v:= .int .i64 g) (c':=c) (g':=g) rfl)
 clear h1 t1 cf
 go_wp2_with fail
 have h1:=HNE.out _ _ HZ3.out.rd
 refine h1.mono ?_
 rintro r w4 ⟨rfl,t1⟩
 change RsP _ _ _ _ _ _ (needS L s3 3 [59]) _ _ at t1
 rw [E4.out] at t1
 have HP4:=xhd (HZ3.out.read t1)
 clear h1 t1 c0 c1 c2 c3 c4 cf1
 go_upto_block 0 with (fail)
 go_cut [] from 41 to 73 (fun wx=>∃(s:Rd) (vg:Value) (gs:List Int),gs.length≤4∧Hid (PsI w wx ao bw off cap L s c g vg (.slice none 0 0) (.slice none 0 0) (.slice none 0 0) gs [] [] [])∧Hid (groupsS L 6 s4 []=(gs,s)))
 case first=>
  obtain⟨G,hG⟩:∃G,groupsS L 6 s4 []=G:=⟨_,rfl⟩
  have HG0:=xhd hG
  go_wp2_with fail
  go_loopg [] 6 (fun m wr=>∃(s:Rd) (vg:Value) (gs:List Int),m=6 - gs.length∧gs.length≤4∧Hid (PsI w wr ao bw off cap L s c g vg (.slice none 0 0) (.slice none 0 0) (.slice none 0 0) gs [] [] [])∧Hid (groupsS L (6 - gs.length) s gs=G))
  case atStart=>exact⟨s4,_,[],rfl,by decide,HP4,HG0⟩
  case round=>
   obtain⟨s,vg,gs,rfl,hg4,HP,HGG⟩:=hrel
   obtain⟨m,hm⟩:∃m,6 - gs.length=m+1:=⟨5 - gs.length,by omega⟩
   have hstep:groupsS L (m+1) s gs=G:=by rw [←hm];exact HGG.out
   have HST:=xhd hstep
   have hm5:6 - (gs.length+1)=m:=by omega
   clear hstep
   obtain⟨b0,b1,b2,b3,b4, -⟩:=five_cells HP.out.st
   obtain⟨av0,cv0,hv0,_,_⟩:=ownsRow_shape HP.out.gr
   subst hv0
   cases q:isS L s 1 groupB with
   |true=>
    obtain⟨hpl,he0⟩:=is_room q
    obtain⟨p,e⟩:=s
    simp only at hpl he0
    subst he0
    have HQQ:=xhd q
    go_wp2_with fail
    have h1:=HIS.out _ _ HP.out.rd ⟨#[103,114,111,117,112]⟩
    rw [show (⟨#[103,114,111,117,112]⟩:ByteArray).data.toList=groupB from rfl,q] at h1
    refine h1.mono ?_
    rintro r wHI1 ⟨rfl,nx,hwx⟩
    have HI1:=xhd (HP.out.drawn nx)
    rw [←hwx] at HI1
    clear h1 hwx nx
    go_wp2_with fail
    have h1:=HIS.out _ _ HI1.out.rd ⟨#[103,114,111,117,112]⟩
    rw [show (⟨#[103,114,111,117,112]⟩:ByteArray).data.toList=groupB from rfl,q] at h1
    refine h1.mono ?_
    rintro r wHI2 ⟨rfl,nx,hwx⟩
    have HI2:=xhd (HI1.out.drawn nx)
    rw [←hwx] at HI2
    clear h1 hwx nx
    obtain⟨c0,c1,c2,c3,c4,cf⟩:=five_cells HI2.out.st
    clear cf q
    go_wp2_with fail
    have h1:=HLO.out _ _ HI2.out.rd (gs.length:Nat) 4
    rw [show longS (p,0) (gs.length:Nat) 4=_ from long_is p gs.length 4] at h1
    by_cases h4:4≤gs.length
    ·rw [decide_eq_true h4,if_pos h4] at h1
     refine h1.mono ?_
     rintro r wy ⟨rfl,t1⟩
     have HY:=xhd (HI2.out.read t1)
     clear h1 t1
     have HE:Hid (G=(gs,(p,6))):=xhd (HST.out.symm.trans (by unfold groupsS;rw [if_pos (.inl HQQ.out),if_pos ⟨HQQ.out,h4⟩]))
     go_wp2_with fail
     go_meet
     exact⟨(p,6),_,gs,hg4,HY,xhd (HG0.out.trans HE.out)⟩
    ·rw [decide_eq_false h4,if_neg h4] at h1
     refine h1.mono ?_
     rintro r wy ⟨rfl,t1⟩
     have HY:=xhd (HI2.out.read t1)
     clear h1 t1 c0 c1 c2 c3 c4
     have HGX:Hid (groupsS L m (needS L (fieldS L (p,0) groupB 16).2 3 [59]) (gs++[(fieldS L (p,0) groupB 16).1])=G):=xhd (by
      have hs:=HST.out
      unfold groupsS at hs
      rw [if_pos (.inl HQQ.out),if_neg (fun h=>h4 h.2)] at hs
      exact hs)
     clear b0 b1 b2 b3 b4
     obtain⟨c0,c1,c2,c3,c4,cf⟩:=five_cells HY.out.st
     have cf2:=cf 2
     obtain⟨⟨x,sx⟩,ex⟩:∃x,fieldS L (p,0) groupB 16=x:=⟨_,rfl⟩
     have EX:=xhd ex
     have d2:=(five_cells (HY.out.below ((Below.refl _ _).drew)).st).2.2.1
     clear ex cf
     go_wp2_with fail
     refine wp_region_noPanic ?_
     refine wp_region_last (fun V=>V.cell? ⟨w.heap.size+2,2,none⟩=some (.slice av0 gs.length cv0)) 7 hmix d2 (fun hS0=>?_)
     refine wpAnyE_take (i:=0) (v:=?_) rfl (by kernel_rfl) (by kernel_rfl) (fun _ _ _ h=>h) (by kernel_rfl) (by kernel_rfl) (Or.inl ⟨by rfl,?hy⟩) (by assumption) ?_
     case hy=>
      intro w hSw
      (try dsimp only at hSw)
      go_simp
      try with_reducible rfl
     try simp only [xga];try simp only [xgs];try simp only [xgz];try simp only [Act.put];try simp only [xsa];try simp only [xss];try simp only [xsz]
     refine wpAnyE_take (i:=1) (v:=?_) rfl (by kernel_rfl) (by kernel_rfl) (fun _ _ _ h=>h) (by kernel_rfl) (by kernel_rfl) (Or.inl ⟨by rfl,?hy⟩) (by assumption) ?_
     case hy=>
      intro w hSw
      (try dsimp only at hSw)
      go_simp
      try with_reducible rfl
     try simp only [xga];try simp only [xgs];try simp only [xgz];try simp only [Act.put];try simp only [xsa];try simp only [xss];try simp only [xsz]
     refine wpAnyE_take (i:=2) (v:=?_) rfl (by kernel_rfl) (by kernel_rfl) (fun _ _ _ h=>h) (by kernel_rfl) (by kernel_rfl) (Or.inl ⟨by rfl,?hy⟩) (by assumption) ?_
     case hy=>
      intro w hSw
      (try dsimp only at hSw)
      go_simp
      try with_reducible rfl
     try simp only [xga];try simp only [xgs];try simp only [xgz];try simp only [Act.put];try simp only [xsa];try simp only [xss];try simp only [xsz]
     refine wpAnyE_ready (rs:=[3]) (by kernel_rfl) (by simp) ?_
     refine ReadyE.cons rfl (fun K' hK=>?_) ReadyE.nil
     go_simp
     have hd:=HY.out.below ((Below.refl _ _).drew)
     have h1:=HF.out _ _ hd.rd ⟨#[103,114,111,117,112]⟩ 16
     rw [show (⟨#[103,114,111,117,112]⟩:ByteArray).data.toList=groupB from rfl,EX.out] at h1
     refine h1.mono ?_
     rintro e u1 ⟨rfl,t1⟩
     have HU:=xhd (hd.read t1)
     have eu:=(five_cells HU.out.st).2.2.1
     clear h1 t1 hd
     go_wp2_with fail
     refine hK.out _ _ (.inr ?_) ?_
     ·exact eu
     clear hK K'
     try simp only [xga];try simp only [xgs];try simp only [xgz];try simp only [Act.put];try simp only [xsa];try simp only [xss];try simp only [xsz]
     refine wpAnyE_ready (rs:=[4]) (by kernel_rfl) (by simp) ?_
     refine ReadyE.cons rfl (fun K' hK=>?_) ReadyE.nil
     go_simp
     have HA:=xhd (HU.out.below ((Below.refl _ _).alloc (Nat.le_refl _) (.cells #[.int .i64 x] 3)))
     have ea:=(five_cells HA.out.st).2.2.1
     refine hK.out _ _ (.inr ?_) ?_
     ·exact ea
     clear hK K'
     try simp only [xga];try simp only [xgs];try simp only [xgz];try simp only [Act.put];try simp only [xsa];try simp only [xss];try simp only [xsz]
     refine wpAnyE_ready (rs:=[5]) (by kernel_rfl) (by simp) ?_
     refine ReadyE.cons rfl (fun K' hK=>?_) ReadyE.nil
     refine step_append_any _ rfl (.tmp 66) (.tmp 69) 22 rfl 3 gi (.int .i64 0) 1 8 Tryz.underlying22 hgi gz0 gz1 gz2 rfl (by decide) (.slice av0 gs.length cv0) gs.length (cellsOf gC gs) rfl (row_base HA.out.gr (Nat.zero_le _)) (some ⟨u1.heap.size,0,none⟩) 1 1 [.int .i64 x] rfl rfl (by intro h;cases h) (by intro ad had;cases had;exact one_new _ _ _) (gC_one x) (by unfold maxLen;omega) (by omega) ?_
     intro a5 c5 w5 hown hg hnew
     have ho:=HA.out.out hg (row_own HA.out.gr)
     have eg:=(five_cells ho.2.1).2.2.1
     have fg:=(five_cells ho.2.1).2.2.2.2.2 2
     refine hK.out _ _ (.inr ?_) ?_
     ·exact eg
     have HQ:=xhd (HA.out.group (x:=x) hown hg hnew rfl)
     clear hK K' hown hg hnew ho
     try simp only [xga];try simp only [xgs];try simp only [xgz];try simp only [Act.put];try simp only [xsa];try simp only [xss];try simp only [xsz]
     refine wpAnyE_take (i:=6) (v:=?_) rfl (by kernel_rfl) (by kernel_rfl) (fun _ _ _ h=>h) (by kernel_rfl) (by kernel_rfl) (Or.inl ⟨by rfl,?hy⟩) (by assumption) ?_
     case hy=>
      intro w hSw
      (try dsimp only at hSw)
      go_simp
      try with_reducible rfl
     try simp only [xga];try simp only [xgs];try simp only [xgz];try simp only [Act.put];try simp only [xsa];try simp only [xss];try simp only [xsz]
     refine wpAnyE_ready (rs:=[7]) (by kernel_rfl) (by simp) ?_
     refine ReadyE.cons rfl (fun K' hK=>?_) ReadyE.nil
     go_simp
     refine hK.out _ _ (.inl rfl) ?_
     clear hK K'
     refine wpAnyE_done (by kernel_rfl) ?_ _
     refine NoPanic.normal ?_
     try simp only [xga];try simp only [xgs];try simp only [xgz];try simp only [Act.put];try simp only [xsa];try simp only [xss];try simp only [xsz]
     obtain⟨gs2,hgs2⟩:∃l,gs++[x]=l:=⟨_,rfl⟩
     have hlen:gs2.length=gs.length+1:=by rw [←hgs2];simp
     have HGS:=xhd hgs2
     rw [hgs2] at HQ
     clear hgs2 c0 c1 c2 c3 c4 cf2 d2 eu ea eg fg
     go_wp2_with fail
     have h1:=HNE.out _ _ HQ.out.rd
     refine h1.mono ?_
     rintro r wz ⟨rfl,t1⟩
     change RsP _ _ _ _ _ _ (needS L sx 3 [59]) _ _ at t1
     have HZ:=xhd (HQ.out.read t1)
     clear h1 t1
     go_wp2
     go_roundg (6 - gs2.length)
     case measure=>omega
     case rel=>exact⟨needS L sx 3 [59],_,gs2,rfl,by omega,HZ,xhd (by
      have hx:=HGX.out
      rw [EX.out] at hx
      simp only at hx
      rw [HGS.out] at hx
      rw [show 6 - gs2.length=m by omega]
      exact hx)⟩
   |false=>
    obtain⟨p,e⟩:=s
    have HQQ:=xhd q
    go_wp2_with fail
    have h1:=HIS.out _ _ HP.out.rd ⟨#[103,114,111,117,112]⟩
    rw [show (⟨#[103,114,111,117,112]⟩:ByteArray).data.toList=groupB from rfl,q] at h1
    refine h1.mono ?_
    rintro r wHI1 ⟨rfl,nx,hwx⟩
    have HI1:=xhd (HP.out.drawn nx)
    rw [←hwx] at HI1
    clear h1 hwx nx
    obtain⟨r0,r1,r2⟩:=op_cells HI1.out.rd.rd
    obtain⟨c0,c1,c2,c3,c4,cf⟩:=five_cells HI1.out.st
    clear cf q
    by_cases h0:gs.length=0
    ·have l0:((gs.length:Int) == 0)=true:=by
       rw [beq_iff_eq]
       omega
     have l1:(gs.length:Int)=0:=by omega
     by_cases he:e=0
     ·subst he
      have HGX:Hid (groupsS L m (needS L (fieldS L (p,0) groupB 16).2 3 [59]) (gs++[(fieldS L (p,0) groupB 16).1])=G):=xhd (by
       have hs:=HST.out
       unfold groupsS at hs
       rw [if_pos (.inr ⟨h0,rfl⟩),if_neg (fun h=>by have h4:=h.2;omega)] at hs
       exact hs)
      go_wp2_with fail
      have h1:=HIS.out _ _ HI1.out.rd ⟨#[103,114,111,117,112]⟩
      rw [show (⟨#[103,114,111,117,112]⟩:ByteArray).data.toList=groupB from rfl,HQQ.out] at h1
      refine h1.mono ?_
      rintro r wHY ⟨rfl,nx,hwx⟩
      have HY:=xhd (HI1.out.drawn nx)
      rw [←hwx] at HY
      clear h1 hwx nx
      have h4:¬4≤gs.length:=by omega
      clear c0 c1 c2 c3 c4 r0 r1 r2 l0 l1 h0
      clear b0 b1 b2 b3 b4
      obtain⟨c0,c1,c2,c3,c4,cf⟩:=five_cells HY.out.st
      have cf2:=cf 2
      obtain⟨⟨x,sx⟩,ex⟩:∃x,fieldS L (p,0) groupB 16=x:=⟨_,rfl⟩
      have EX:=xhd ex
      have d2:=(five_cells (HY.out.below ((Below.refl _ _).drew)).st).2.2.1
      clear ex cf
      go_wp2_with fail
      refine wp_region_noPanic ?_
      refine wp_region_last (fun V=>V.cell? ⟨w.heap.size+2,2,none⟩=some (.slice av0 gs.length cv0)) 7 hmix d2 (fun hS0=>?_)
      refine wpAnyE_take (i:=0) (v:=?_) rfl (by kernel_rfl) (by kernel_rfl) (fun _ _ _ h=>h) (by kernel_rfl) (by kernel_rfl) (Or.inl ⟨by rfl,?hy⟩) (by assumption) ?_
      case hy=>
       intro w hSw
       (try dsimp only at hSw)
       go_simp
       try with_reducible rfl
      try simp only [xga];try simp only [xgs];try simp only [xgz];try simp only [Act.put];try simp only [xsa];try simp only [xss];try simp only [xsz]
      refine wpAnyE_take (i:=1) (v:=?_) rfl (by kernel_rfl) (by kernel_rfl) (fun _ _ _ h=>h) (by kernel_rfl) (by kernel_rfl) (Or.inl ⟨by rfl,?hy⟩) (by assumption) ?_
      case hy=>
       intro w hSw
       (try dsimp only at hSw)
       go_simp
       try with_reducible rfl
      try simp only [xga];try simp only [xgs];try simp only [xgz];try simp only [Act.put];try simp only [xsa];try simp only [xss];try simp only [xsz]
      refine wpAnyE_take (i:=2) (v:=?_) rfl (by kernel_rfl) (by kernel_rfl) (fun _ _ _ h=>h) (by kernel_rfl) (by kernel_rfl) (Or.inl ⟨by rfl,?hy⟩) (by assumption) ?_
      case hy=>
       intro w hSw
       (try dsimp only at hSw)
       go_simp
       try with_reducible rfl
      try simp only [xga];try simp only [xgs];try simp only [xgz];try simp only [Act.put];try simp only [xsa];try simp only [xss];try simp only [xsz]
      refine wpAnyE_ready (rs:=[3]) (by kernel_rfl) (by simp) ?_
      refine ReadyE.cons rfl (fun K' hK=>?_) ReadyE.nil
      go_simp
      have hd:=HY.out.below ((Below.refl _ _).drew)
      have h1:=HF.out _ _ hd.rd ⟨#[103,114,111,117,112]⟩ 16
      rw [show (⟨#[103,114,111,117,112]⟩:ByteArray).data.toList=groupB from rfl,EX.out] at h1
      refine h1.mono ?_
      rintro e u1 ⟨rfl,t1⟩
      have HU:=xhd (hd.read t1)
      have eu:=(five_cells HU.out.st).2.2.1
      clear h1 t1 hd
      go_wp2_with fail
      refine hK.out _ _ (.inr ?_) ?_
      ·exact eu
      clear hK K'
      try simp only [xga];try simp only [xgs];try simp only [xgz];try simp only [Act.put];try simp only [xsa];try simp only [xss];try simp only [xsz]
      refine wpAnyE_ready (rs:=[4]) (by kernel_rfl) (by simp) ?_
      refine ReadyE.cons rfl (fun K' hK=>?_) ReadyE.nil
      go_simp
      have HA:=xhd (HU.out.below ((Below.refl _ _).alloc (Nat.le_refl _) (.cells #[.int .i64 x] 3)))
      have ea:=(five_cells HA.out.st).2.2.1
      refine hK.out _ _ (.inr ?_) ?_
      ·exact ea
      clear hK K'
      try simp only [xga];try simp only [xgs];try simp only [xgz];try simp only [Act.put];try simp only [xsa];try simp only [xss];try simp only [xsz]
      refine wpAnyE_ready (rs:=[5]) (by kernel_rfl) (by simp) ?_
      refine ReadyE.cons rfl (fun K' hK=>?_) ReadyE.nil
      refine step_append_any _ rfl (.tmp 66) (.tmp 69) 22 rfl 3 gi (.int .i64 0) 1 8 Tryz.underlying22 hgi gz0 gz1 gz2 rfl (by decide) (.slice av0 gs.length cv0) gs.length (cellsOf gC gs) rfl (row_base HA.out.gr (Nat.zero_le _)) (some ⟨u1.heap.size,0,none⟩) 1 1 [.int .i64 x] rfl rfl (by intro h;cases h) (by intro ad had;cases had;exact one_new _ _ _) (gC_one x) (by unfold maxLen;omega) (by omega) ?_
      intro a5 c5 w5 hown hg hnew
      have ho:=HA.out.out hg (row_own HA.out.gr)
      have eg:=(five_cells ho.2.1).2.2.1
      have fg:=(five_cells ho.2.1).2.2.2.2.2 2
      refine hK.out _ _ (.inr ?_) ?_
      ·exact eg
      have HQ:=xhd (HA.out.group (x:=x) hown hg hnew rfl)
      clear hK K' hown hg hnew ho
      try simp only [xga];try simp only [xgs];try simp only [xgz];try simp only [Act.put];try simp only [xsa];try simp only [xss];try simp only [xsz]
      refine wpAnyE_take (i:=6) (v:=?_) rfl (by kernel_rfl) (by kernel_rfl) (fun _ _ _ h=>h) (by kernel_rfl) (by kernel_rfl) (Or.inl ⟨by rfl,?hy⟩) (by assumption) ?_
      case hy=>
       intro w hSw
       (try dsimp only at hSw)
       go_simp
       try with_reducible rfl
      try simp only [xga];try simp only [xgs];try simp only [xgz];try simp only [Act.put];try simp only [xsa];try simp only [xss];try simp only [xsz]
      refine wpAnyE_ready (rs:=[7]) (by kernel_rfl) (by simp) ?_
      refine ReadyE.cons rfl (fun K' hK=>?_) ReadyE.nil
      go_simp
      refine hK.out _ _ (.inl rfl) ?_
      clear hK K'
      refine wpAnyE_done (by kernel_rfl) ?_ _
      refine NoPanic.normal ?_
      try simp only [xga];try simp only [xgs];try simp only [xgz];try simp only [Act.put];try simp only [xsa];try simp only [xss];try simp only [xsz]
      obtain⟨gs2,hgs2⟩:∃l,gs++[x]=l:=⟨_,rfl⟩
      have hlen:gs2.length=gs.length+1:=by rw [←hgs2];simp
      have HGS:=xhd hgs2
      rw [hgs2] at HQ
      clear hgs2 c0 c1 c2 c3 c4 cf2 d2 eu ea eg fg
      go_wp2_with fail
      have h1:=HNE.out _ _ HQ.out.rd
      refine h1.mono ?_
      rintro r wz ⟨rfl,t1⟩
      change RsP _ _ _ _ _ _ (needS L sx 3 [59]) _ _ at t1
      have HZ:=xhd (HQ.out.read t1)
      clear h1 t1
      go_wp2
      go_roundg (6 - gs2.length)
      case measure=>omega
      case rel=>exact⟨needS L sx 3 [59],_,gs2,rfl,by omega,HZ,xhd (by
       have hx:=HGX.out
       rw [EX.out] at hx
       simp only at hx
       rw [HGS.out] at hx
       rw [show 6 - gs2.length=m by omega]
       exact hx)⟩
     ·have ee:(e == 0)=false:=by simpa using he
      have HE:Hid (G=(gs,(p,e))):=xhd (HST.out.symm.trans (by
       unfold groupsS
       rw [if_neg (by
        rintro (h|h)
        ·rw [HQQ.out] at h
         cases h
        ·exact he h.2)]))
      go_wp2_with fail
      go_meet
      exact⟨(p,e),_,gs,hg4,HI1,xhd (HG0.out.trans HE.out)⟩
    ·have l0:((gs.length:Int) == 0)=false:=by
       rw [beq_eq_false_iff_ne]
       omega
     have l1:¬(gs.length:Int)=0:=by omega
     have HE:Hid (G=(gs,(p,e))):=xhd (HST.out.symm.trans (by
      unfold groupsS
      rw [if_neg (by
       rintro (h|h)
       ·rw [HQQ.out] at h
        cases h
       ·exact h0 h.1)]))
     go_wp2_with fail
     go_meet
     exact⟨(p,e),_,gs,hg4,HI1,xhd (HG0.out.trans HE.out)⟩
 case rest=>
  obtain⟨s5,vg,gs,hg4,HP5,HG5⟩:=hcut
  clear HP0 HP1 HZ1 HP2 HP3 HZ3 HP4
  go_upto_block 2 with (fail)
  go_cut [] from 74 to 101 (fun wx=>∃(s:Rd) (vl:Value) (ls:List Lk),ls.length≤8∧Hid (PsI w wx ao bw off cap L s c g vg vl (.slice none 0 0) (.slice none 0 0) gs ls [] [])∧Hid (locksS L 10 s5 []=(ls,s)))
  case first=>
   obtain⟨G,hG⟩:∃G,locksS L 10 s5 []=G:=⟨_,rfl⟩
   have HG0:=xhd hG
   go_wp2_with fail
   go_loopg [] 10 (fun m wr=>∃(s:Rd) (vl:Value) (ls:List Lk),m=10 - ls.length∧ls.length≤8∧Hid (PsI w wr ao bw off cap L s c g vg vl (.slice none 0 0) (.slice none 0 0) gs ls [] [])∧Hid (locksS L (10 - ls.length) s ls=G))
   case atStart=>exact⟨s5,_,[],rfl,by decide,HP5,HG0⟩
   case round=>
    obtain⟨s,vl,ls,rfl,hl8,HP,HGG⟩:=hrel
    obtain⟨m,hm⟩:∃m,10 - ls.length=m+1:=⟨9 - ls.length,by omega⟩
    have hstep:locksS L (m+1) s ls=G:=by rw [←hm];exact HGG.out
    have HST:=xhd hstep
    clear hstep
    obtain⟨av0,cv0,hv0,_,_⟩:=ownsRow_shape HP.out.lr
    subst hv0
    cases q:isS L s 1 lockB with
    |true=>
     obtain⟨hpl,he0⟩:=is_room q
     obtain⟨p,e⟩:=s
     simp only at hpl he0
     subst he0
     obtain⟨sh,hsh⟩:∃b,isS L (p,0) 1 sharedB=b:=⟨_,rfl⟩
     have HSH:=xhd hsh
     have HC:Hid (isS L (p,0) 1 lockB=true∨isS L (p,0) 1 sharedB=true):=xhd (.inl q)
     clear hsh
     go_wp2_with fail
     have h1:=HIS.out _ _ HP.out.rd ⟨#[108,111,99,107]⟩
     rw [show (⟨#[108,111,99,107]⟩:ByteArray).data.toList=lockB from rfl,q] at h1
     refine h1.mono ?_
     rintro r wHI1 ⟨rfl,nx,hwx⟩
     have HI1:=xhd (HP.out.drawn nx)
     rw [←hwx] at HI1
     clear h1 hwx nx
     clear q
     obtain⟨c0,c1,c2,c3,c4,cf⟩:=five_cells HI1.out.st
     clear cf
     go_wp2_with fail
     have h1:=HLO.out _ _ HI1.out.rd (ls.length:Nat) 8
     rw [show longS (p,0) (ls.length:Nat) 8=_ from long_is p ls.length 8] at h1
     by_cases h8:8≤ls.length
     ·rw [decide_eq_true h8,if_pos h8] at h1
      refine h1.mono ?_
      rintro r wy ⟨rfl,t1⟩
      have HY:=xhd (HI1.out.read t1)
      clear h1 t1
      have HE:Hid (G=(ls,(p,6))):=xhd (HST.out.symm.trans (by unfold locksS;rw [if_pos HC.out,if_pos h8]))
      go_wp2_with fail
      go_meet
      exact⟨(p,6),_,ls,hl8,HY,xhd (HG0.out.trans HE.out)⟩
     ·rw [decide_eq_false h8,if_neg h8] at h1
      refine h1.mono ?_
      rintro r wy ⟨rfl,t1⟩
      have HY:=xhd (HI1.out.read t1)
      clear h1 t1 c0 c1 c2 c3 c4
      have HGX:Hid (locksS L m (lockS L (p+1,0) sh).2 (ls++[(lockS L (p+1,0) sh).1])=G):=xhd (by
       have hs:=HST.out
       unfold locksS at hs
       rw [if_pos HC.out,if_neg h8,HSH.out] at hs
       exact hs)
      go_wp2_with fail
      have h1:=HIS.out _ _ HY.out.rd ⟨#[115,104,97,114,101,100]⟩
      rw [show (⟨#[115,104,97,114,101,100]⟩:ByteArray).data.toList=sharedB from rfl,HSH.out] at h1
      refine h1.mono ?_
      rintro r wHZ ⟨rfl,nx,hwx⟩
      have HZ:=xhd (HY.out.drawn nx)
      rw [←hwx] at HZ
      clear h1 hwx nx
      obtain⟨r0,r1,r2⟩:=op_cells HZ.out.rd.rd
      have f1:=frozen_of_row _ _ 1 _ _ HZ.out.rd.rd
      have cw:IntKind.i64.wrap ((p:Int)+1)=((p+1:Nat):Int):=by rw [IntKind.wrap_i64];have:=HZ.out.rd.len;omega
      obtain⟨wS,hwS⟩:∃z,wHZ.setCell ⟨w.heap.size+1,1,none⟩ (.int .i64 ((p:Int)+1))=z:=⟨_,rfl⟩
      have hs1:=HZ.out.rd.setAt (c':=p+1) hpl
      rw [show ((p+1:Nat):Int)=(p:Int)+1 by omega] at hs1 cw
      have HS:=xhd (HZ.out.read (s':=(p+1,0)) hs1)
      rw [hwS] at HS
      have HWS:=xhd hwS
      have d3:=(five_cells (HS.out.below ((Below.refl _ _).drew)).st).2.2.2.1
      obtain⟨⟨⟨x0,x1,x2,x3,x4⟩,sx⟩,ex⟩:∃z,lockS L (p+1,0) sh=z:=⟨_,rfl⟩
      have EX:=xhd ex
      clear hwS hs1 ex
      go_wp2_with fail
      rw [HWS.out]
      refine wp_region_noPanic ?_
      refine wp_region_last (fun V=>V.cell? ⟨w.heap.size+2,3,none⟩=some (.slice av0 ls.length cv0)) 8 hmix d3 (fun hS0=>?_)
      refine wpAnyE_take (i:=0) (v:=?_) rfl (by kernel_rfl) (by kernel_rfl) (fun _ _ _ h=>h) (by kernel_rfl) (by kernel_rfl) (Or.inl ⟨by rfl,?hy⟩) (by assumption) ?_
      case hy=>
       intro w hSw
       (try dsimp only at hSw)
       go_simp
       try with_reducible rfl
      try simp only [xga];try simp only [xgs];try simp only [xgz];try simp only [Act.put];try simp only [xsa];try simp only [xss];try simp only [xsz]
      refine wpAnyE_take (i:=1) (v:=?_) rfl (by kernel_rfl) (by kernel_rfl) (fun _ _ _ h=>h) (by kernel_rfl) (by kernel_rfl) (Or.inl ⟨by rfl,?hy⟩) (by assumption) ?_
      case hy=>
       intro w hSw
       (try dsimp only at hSw)
       go_simp
       try with_reducible rfl
      try simp only [xga];try simp only [xgs];try simp only [xgz];try simp only [Act.put];try simp only [xsa];try simp only [xss];try simp only [xsz]
      refine wpAnyE_take (i:=2) (v:=?_) rfl (by kernel_rfl) (by kernel_rfl) (fun _ _ _ h=>h) (by kernel_rfl) (by kernel_rfl) (Or.inl ⟨by rfl,?hy⟩) (by assumption) ?_
      case hy=>
       intro w hSw
       (try dsimp only at hSw)
       go_simp
       try with_reducible rfl
      try simp only [xga];try simp only [xgs];try simp only [xgz];try simp only [Act.put];try simp only [xsa];try simp only [xss];try simp only [xsz]
      refine wpAnyE_take (i:=3) (v:=?_) rfl (by kernel_rfl) (by kernel_rfl) (fun _ _ _ h=>h) (by kernel_rfl) (by kernel_rfl) (Or.inl ⟨by rfl,?hy⟩) (by assumption) ?_
      case hy=>
       intro w hSw
       (try dsimp only at hSw)
       go_simp
       try with_reducible rfl
      try simp only [xga];try simp only [xgs];try simp only [xgz];try simp only [Act.put];try simp only [xsa];try simp only [xss];try simp only [xsz]
      refine wpAnyE_ready (rs:=[4]) (by kernel_rfl) (by simp) ?_
      refine ReadyE.cons rfl (fun K' hK=>?_) ReadyE.nil
      go_simp
      have hd:=HS.out.below ((Below.refl _ _).drew)
      have h1:=HLK.out _ _ hd.rd sh
      rw [EX.out] at h1
      simp only [lkA] at h1
      refine h1.mono ?_
      rintro e u1 ⟨rfl,t1⟩
      have HU:=xhd (hd.read t1)
      have eu:=(five_cells HU.out.st).2.2.2.1
      clear h1 t1 hd
      go_wp2_with fail
      refine hK.out _ _ (.inr ?_) ?_
      ·exact eu
      clear hK K'
      try simp only [xga];try simp only [xgs];try simp only [xgz];try simp only [Act.put];try simp only [xsa];try simp only [xss];try simp only [xsz]
      refine wpAnyE_ready (rs:=[5]) (by kernel_rfl) (by simp) ?_
      refine ReadyE.cons rfl (fun K' hK=>?_) ReadyE.nil
      go_simp
      have HA:=xhd (HU.out.below ((Below.refl _ _).alloc (Nat.le_refl _) (.cells #[.bool x0, .int .i64 x1, .int .i64 x2, .int .i64 x3, .int .i64 x4] 100)))
      have ea:=(five_cells HA.out.st).2.2.2.1
      refine hK.out _ _ (.inr ?_) ?_
      ·exact ea
      clear hK K'
      try simp only [xga];try simp only [xgs];try simp only [xgz];try simp only [Act.put];try simp only [xsa];try simp only [xss];try simp only [xsz]
      refine wpAnyE_ready (rs:=[6]) (by kernel_rfl) (by simp) ?_
      refine ReadyE.cons rfl (fun K' hK=>?_) ReadyE.nil
      refine step_append_any _ rfl (.tmp 95) (.tmp 99) 23 rfl 100 li (.agg #[.bool false, .int .i64 0, .int .i64 0, .int .i64 0, .int .i64 0]) 5 40 Tryz.underlying23 hli lz0 lz1 lz2 rfl (by decide) (.slice av0 ls.length cv0) ls.length (cellsOf lkC ls) rfl (row_base HA.out.lr (Nat.zero_le _)) (some ⟨u1.heap.size,0,none⟩) 1 1 [.bool x0, .int .i64 x1, .int .i64 x2, .int .i64 x3, .int .i64 x4] rfl rfl (by intro h;cases h) (by intro ad had;cases had;exact five_new _ _ _ _ _ _ _) (lkC_one (x0,x1,x2,x3,x4)) (by unfold maxLen;omega) (by omega) ?_
      intro a5 c5 w5 hown hg hnew
      have ho:=HA.out.out hg (row_own HA.out.lr)
      have eg:=(five_cells ho.2.1).2.2.2.1
      have fg:=(five_cells ho.2.1).2.2.2.2.2 3
      refine hK.out _ _ (.inr ?_) ?_
      ·exact eg
      have HQ:=xhd (HA.out.lock (x:=(x0,x1,x2,x3,x4)) hown hg hnew)
      clear hK K' hown hg hnew ho
      try simp only [xga];try simp only [xgs];try simp only [xgz];try simp only [Act.put];try simp only [xsa];try simp only [xss];try simp only [xsz]
      refine wpAnyE_take (i:=7) (v:=?_) rfl (by kernel_rfl) (by kernel_rfl) (fun _ _ _ h=>h) (by kernel_rfl) (by kernel_rfl) (Or.inl ⟨by rfl,?hy⟩) (by assumption) ?_
      case hy=>
       intro w hSw
       (try dsimp only at hSw)
       go_simp
       try with_reducible rfl
      try simp only [xga];try simp only [xgs];try simp only [xgz];try simp only [Act.put];try simp only [xsa];try simp only [xss];try simp only [xsz]
      refine wpAnyE_ready (rs:=[8]) (by kernel_rfl) (by simp) ?_
      refine ReadyE.cons rfl (fun K' hK=>?_) ReadyE.nil
      go_simp
      refine hK.out _ _ (.inl rfl) ?_
      clear hK K'
      refine wpAnyE_done (by kernel_rfl) ?_ _
      refine NoPanic.normal ?_
      try simp only [xga];try simp only [xgs];try simp only [xgz];try simp only [Act.put];try simp only [xsa];try simp only [xss];try simp only [xsz]
      obtain⟨ls2,hls2⟩:∃l,ls++[(x0,x1,x2,x3,x4)]=l:=⟨_,rfl⟩
      have hlen:ls2.length=ls.length+1:=by rw [←hls2];simp
      have HLS:=xhd hls2
      rw [hls2] at HQ
      clear hls2 d3 eu ea eg fg r0 r1 r2 f1
      go_wp2
      go_roundg (10 - ls2.length)
      case measure=>omega
      case rel=>exact⟨sx,_,ls2,rfl,by omega,HQ,xhd (by
       have hx:=HGX.out
       rw [EX.out] at hx
       simp only at hx
       rw [HLS.out] at hx
       rw [show 10 - ls2.length=m by omega]
       exact hx)⟩
    |false=>
     cases q2:isS L s 1 sharedB with
     |true=>
      obtain⟨hpl,he0⟩:=is_room q2
      obtain⟨p,e⟩:=s
      simp only at hpl he0
      subst he0
      obtain⟨sh,hsh⟩:∃b,isS L (p,0) 1 sharedB=b:=⟨_,rfl⟩
      have HSH:=xhd hsh
      have HC:Hid (isS L (p,0) 1 lockB=true∨isS L (p,0) 1 sharedB=true):=xhd (.inr q2)
      clear hsh
      go_wp2_with fail
      have h1:=HIS.out _ _ HP.out.rd ⟨#[108,111,99,107]⟩
      rw [show (⟨#[108,111,99,107]⟩:ByteArray).data.toList=lockB from rfl,q] at h1
      refine h1.mono ?_
      rintro r wHI1 ⟨rfl,nx,hwx⟩
      have HI1:=xhd (HP.out.drawn nx)
      rw [←hwx] at HI1
      clear h1 hwx nx
      go_wp2_with fail
      have h1:=HIS.out _ _ HI1.out.rd ⟨#[115,104,97,114,101,100]⟩
      rw [show (⟨#[115,104,97,114,101,100]⟩:ByteArray).data.toList=sharedB from rfl,q2] at h1
      refine h1.mono ?_
      rintro r wHI2 ⟨rfl,nx,hwx⟩
      have HI2:=xhd (HI1.out.drawn nx)
      rw [←hwx] at HI2
      clear h1 hwx nx
      clear q q2
      obtain⟨c0,c1,c2,c3,c4,cf⟩:=five_cells HI2.out.st
      clear cf
      go_wp2_with fail
      have h1:=HLO.out _ _ HI2.out.rd (ls.length:Nat) 8
      rw [show longS (p,0) (ls.length:Nat) 8=_ from long_is p ls.length 8] at h1
      by_cases h8:8≤ls.length
      ·rw [decide_eq_true h8,if_pos h8] at h1
       refine h1.mono ?_
       rintro r wy ⟨rfl,t1⟩
       have HY:=xhd (HI2.out.read t1)
       clear h1 t1
       have HE:Hid (G=(ls,(p,6))):=xhd (HST.out.symm.trans (by unfold locksS;rw [if_pos HC.out,if_pos h8]))
       go_wp2_with fail
       go_meet
       exact⟨(p,6),_,ls,hl8,HY,xhd (HG0.out.trans HE.out)⟩
      ·rw [decide_eq_false h8,if_neg h8] at h1
       refine h1.mono ?_
       rintro r wy ⟨rfl,t1⟩
       have HY:=xhd (HI2.out.read t1)
       clear h1 t1 c0 c1 c2 c3 c4
       have HGX:Hid (locksS L m (lockS L (p+1,0) sh).2 (ls++[(lockS L (p+1,0) sh).1])=G):=xhd (by
        have hs:=HST.out
        unfold locksS at hs
        rw [if_pos HC.out,if_neg h8,HSH.out] at hs
        exact hs)
       go_wp2_with fail
       have h1:=HIS.out _ _ HY.out.rd ⟨#[115,104,97,114,101,100]⟩
       rw [show (⟨#[115,104,97,114,101,100]⟩:ByteArray).data.toList=sharedB from rfl,HSH.out] at h1
       refine h1.mono ?_
       rintro r wHZ ⟨rfl,nx,hwx⟩
       have HZ:=xhd (HY.out.drawn nx)
       rw [←hwx] at HZ
       clear h1 hwx nx
       obtain⟨r0,r1,r2⟩:=op_cells HZ.out.rd.rd
       have f1:=frozen_of_row _ _ 1 _ _ HZ.out.rd.rd
       have cw:IntKind.i64.wrap ((p:Int)+1)=((p+1:Nat):Int):=by rw [IntKind.wrap_i64];have:=HZ.out.rd.len;omega
       obtain⟨wS,hwS⟩:∃z,wHZ.setCell ⟨w.heap.size+1,1,none⟩ (.int .i64 ((p:Int)+1))=z:=⟨_,rfl⟩
       have hs1:=HZ.out.rd.setAt (c':=p+1) hpl
       rw [show ((p+1:Nat):Int)=(p:Int)+1 by omega] at hs1 cw
       have HS:=xhd (HZ.out.read (s':=(p+1,0)) hs1)
       rw [hwS] at HS
       have HWS:=xhd hwS
       have d3:=(five_cells (HS.out.below ((Below.refl _ _).drew)).st).2.2.2.1
       obtain⟨⟨⟨x0,x1,x2,x3,x4⟩,sx⟩,ex⟩:∃z,lockS L (p+1,0) sh=z:=⟨_,rfl⟩
       have EX:=xhd ex
       clear hwS hs1 ex
       go_wp2_with fail
       rw [HWS.out]
       refine wp_region_noPanic ?_
       refine wp_region_last (fun V=>V.cell? ⟨w.heap.size+2,3,none⟩=some (.slice av0 ls.length cv0)) 8 hmix d3 (fun hS0=>?_)
       refine wpAnyE_take (i:=0) (v:=?_) rfl (by kernel_rfl) (by kernel_rfl) (fun _ _ _ h=>h) (by kernel_rfl) (by kernel_rfl) (Or.inl ⟨by rfl,?hy⟩) (by assumption) ?_
       case hy=>
        intro w hSw
        (try dsimp only at hSw)
        go_simp
        try with_reducible rfl
       try simp only [xga];try simp only [xgs];try simp only [xgz];try simp only [Act.put];try simp only [xsa];try simp only [xss];try simp only [xsz]
       refine wpAnyE_take (i:=1) (v:=?_) rfl (by kernel_rfl) (by kernel_rfl) (fun _ _ _ h=>h) (by kernel_rfl) (by kernel_rfl) (Or.inl ⟨by rfl,?hy⟩) (by assumption) ?_
       case hy=>
        intro w hSw
        (try dsimp only at hSw)
        go_simp
        try with_reducible rfl
       try simp only [xga];try simp only [xgs];try simp only [xgz];try simp only [Act.put];try simp only [xsa];try simp only [xss];try simp only [xsz]
       refine wpAnyE_take (i:=2) (v:=?_) rfl (by kernel_rfl) (by kernel_rfl) (fun _ _ _ h=>h) (by kernel_rfl) (by kernel_rfl) (Or.inl ⟨by rfl,?hy⟩) (by assumption) ?_
       case hy=>
        intro w hSw
        (try dsimp only at hSw)
        go_simp
        try with_reducible rfl
       try simp only [xga];try simp only [xgs];try simp only [xgz];try simp only [Act.put];try simp only [xsa];try simp only [xss];try simp only [xsz]
       refine wpAnyE_take (i:=3) (v:=?_) rfl (by kernel_rfl) (by kernel_rfl) (fun _ _ _ h=>h) (by kernel_rfl) (by kernel_rfl) (Or.inl ⟨by rfl,?hy⟩) (by assumption) ?_
       case hy=>
        intro w hSw
        (try dsimp only at hSw)
        go_simp
        try with_reducible rfl
       try simp only [xga];try simp only [xgs];try simp only [xgz];try simp only [Act.put];try simp only [xsa];try simp only [xss];try simp only [xsz]
       refine wpAnyE_ready (rs:=[4]) (by kernel_rfl) (by simp) ?_
       refine ReadyE.cons rfl (fun K' hK=>?_) ReadyE.nil
       go_simp
       have hd:=HS.out.below ((Below.refl _ _).drew)
       have h1:=HLK.out _ _ hd.rd sh
       rw [EX.out] at h1
       simp only [lkA] at h1
       refine h1.mono ?_
       rintro e u1 ⟨rfl,t1⟩
       have HU:=xhd (hd.read t1)
       have eu:=(five_cells HU.out.st).2.2.2.1
       clear h1 t1 hd
       go_wp2_with fail
       refine hK.out _ _ (.inr ?_) ?_
       ·exact eu
       clear hK K'
       try simp only [xga];try simp only [xgs];try simp only [xgz];try simp only [Act.put];try simp only [xsa];try simp only [xss];try simp only [xsz]
       refine wpAnyE_ready (rs:=[5]) (by kernel_rfl) (by simp) ?_
       refine ReadyE.cons rfl (fun K' hK=>?_) ReadyE.nil
       go_simp
       have HA:=xhd (HU.out.below ((Below.refl _ _).alloc (Nat.le_refl _) (.cells #[.bool x0, .int .i64 x1, .int .i64 x2, .int .i64 x3, .int .i64 x4] 100)))
       have ea:=(five_cells HA.out.st).2.2.2.1
       refine hK.out _ _ (.inr ?_) ?_
       ·exact ea
       clear hK K'
       try simp only [xga];try simp only [xgs];try simp only [xgz];try simp only [Act.put];try simp only [xsa];try simp only [xss];try simp only [xsz]
       refine wpAnyE_ready (rs:=[6]) (by kernel_rfl) (by simp) ?_
       refine ReadyE.cons rfl (fun K' hK=>?_) ReadyE.nil
       refine step_append_any _ rfl (.tmp 95) (.tmp 99) 23 rfl 100 li (.agg #[.bool false, .int .i64 0, .int .i64 0, .int .i64 0, .int .i64 0]) 5 40 Tryz.underlying23 hli lz0 lz1 lz2 rfl (by decide) (.slice av0 ls.length cv0) ls.length (cellsOf lkC ls) rfl (row_base HA.out.lr (Nat.zero_le _)) (some ⟨u1.heap.size,0,none⟩) 1 1 [.bool x0, .int .i64 x1, .int .i64 x2, .int .i64 x3, .int .i64 x4] rfl rfl (by intro h;cases h) (by intro ad had;cases had;exact five_new _ _ _ _ _ _ _) (lkC_one (x0,x1,x2,x3,x4)) (by unfold maxLen;omega) (by omega) ?_
       intro a5 c5 w5 hown hg hnew
       have ho:=HA.out.out hg (row_own HA.out.lr)
       have eg:=(five_cells ho.2.1).2.2.2.1
       have fg:=(five_cells ho.2.1).2.2.2.2.2 3
       refine hK.out _ _ (.inr ?_) ?_
       ·exact eg
       have HQ:=xhd (HA.out.lock (x:=(x0,x1,x2,x3,x4)) hown hg hnew)
       clear hK K' hown hg hnew ho
       try simp only [xga];try simp only [xgs];try simp only [xgz];try simp only [Act.put];try simp only [xsa];try simp only [xss];try simp only [xsz]
       refine wpAnyE_take (i:=7) (v:=?_) rfl (by kernel_rfl) (by kernel_rfl) (fun _ _ _ h=>h) (by kernel_rfl) (by kernel_rfl) (Or.inl ⟨by rfl,?hy⟩) (by assumption) ?_
       case hy=>
        intro w hSw
        (try dsimp only at hSw)
        go_simp
        try with_reducible rfl
       try simp only [xga];try simp only [xgs];try simp only [xgz];try simp only [Act.put];try simp only [xsa];try simp only [xss];try simp only [xsz]
       refine wpAnyE_ready (rs:=[8]) (by kernel_rfl) (by simp) ?_
       refine ReadyE.cons rfl (fun K' hK=>?_) ReadyE.nil
       go_simp
       refine hK.out _ _ (.inl rfl) ?_
       clear hK K'
       refine wpAnyE_done (by kernel_rfl) ?_ _
       refine NoPanic.normal ?_
       try simp only [xga];try simp only [xgs];try simp only [xgz];try simp only [Act.put];try simp only [xsa];try simp only [xss];try simp only [xsz]
       obtain⟨ls2,hls2⟩:∃l,ls++[(x0,x1,x2,x3,x4)]=l:=⟨_,rfl⟩
       have hlen:ls2.length=ls.length+1:=by rw [←hls2];simp
       have HLS:=xhd hls2
       rw [hls2] at HQ
       clear hls2 d3 eu ea eg fg r0 r1 r2 f1
       go_wp2
       go_roundg (10 - ls2.length)
       case measure=>omega
       case rel=>exact⟨sx,_,ls2,rfl,by omega,HQ,xhd (by
        have hx:=HGX.out
        rw [EX.out] at hx
        simp only at hx
        rw [HLS.out] at hx
        rw [show 10 - ls2.length=m by omega]
        exact hx)⟩
     |false=>
      have HE:Hid (G=(ls,s)):=xhd (HST.out.symm.trans (by
       unfold locksS
       rw [if_neg (by
        rintro (h|h)
        ·rw [q] at h
         cases h
        ·rw [q2] at h
         cases h)]))
      go_wp2_with fail
      have h1:=HIS.out _ _ HP.out.rd ⟨#[108,111,99,107]⟩
      rw [show (⟨#[108,111,99,107]⟩:ByteArray).data.toList=lockB from rfl,q] at h1
      refine h1.mono ?_
      rintro r wHI1 ⟨rfl,nx,hwx⟩
      have HI1:=xhd (HP.out.drawn nx)
      rw [←hwx] at HI1
      clear h1 hwx nx
      go_wp2_with fail
      have h1:=HIS.out _ _ HI1.out.rd ⟨#[115,104,97,114,101,100]⟩
      rw [show (⟨#[115,104,97,114,101,100]⟩:ByteArray).data.toList=sharedB from rfl,q2] at h1
      refine h1.mono ?_
      rintro r wHI2 ⟨rfl,nx,hwx⟩
      have HI2:=xhd (HI1.out.drawn nx)
      rw [←hwx] at HI2
      clear h1 hwx nx
      clear q q2
      go_wp2_with fail
      go_meet
      exact⟨s,_,ls,hl8,HI2,xhd (HG0.out.trans HE.out)⟩
  case rest=>
   obtain⟨s6,vl,ls,hl8,HP6,HG6⟩:=hcut
   clear HP5
   go_upto_block 4 with (fail)
   go_cut [10] from 102 to 152 (fun v10 wx=>∃(s:Rd) (vp:Value) (xs:List (Prg×Value)) (ps:List (Prg×Nat)) (qs:List Int),xs.length≤8∧Hid (xs.map (·.1)=ps.map (·.1)∧qs=ps.map (fun x=>((x.2:Nat):Int))∧ps.length=xs.length∧∀x ∈ ps,x.1.2.length≤12∧∀o ∈ x.1.2,small o.1)∧Hid (PsI w wx ao bw off cap L s c g vg vl vp v10 gs ls xs qs)∧Hid (progsS L 10 s6 []=(ps,s)))
   case first=>
    obtain⟨G,hG⟩:∃G,progsS L 10 s6 []=G:=⟨_,rfl⟩
    have HG0:=xhd hG
    go_wp2_with fail
    go_loopg [10] 10 (fun m v10 wr=>∃(s:Rd) (vp:Value) (xs:List (Prg×Value)) (ps:List (Prg×Nat)) (qs:List Int),m=10 - xs.length∧xs.length≤8∧Hid (xs.map (·.1)=ps.map (·.1)∧qs=ps.map (fun x=>((x.2:Nat):Int))∧ps.length=xs.length∧∀x ∈ ps,x.1.2.length≤12∧∀o ∈ x.1.2,small o.1)∧Hid (PsI w wr ao bw off cap L s c g vg vl vp v10 gs ls xs qs)∧Hid (progsS L (10 - xs.length) s ps=G))
    case atStart=>exact⟨s6,_,[],[],[],rfl,by decide,xhd ⟨rfl,rfl,rfl,fun x hx=>by cases hx⟩,HP6,HG0⟩
    case round=>
     obtain⟨s,vp,xs,ps,qs,rfl,hx8,HPL,HP,HGG⟩:=hrel
     obtain⟨m,hm⟩:∃m,10 - xs.length=m+1:=⟨9 - xs.length,by omega⟩
     have hstep:progsS L (m+1) s ps=G:=by rw [←hm];exact HGG.out
     have HST:=xhd hstep
     clear hstep
     obtain⟨av0,cv0,hv0,_,_⟩:=ownsRow_shape HP.out.pr
     subst hv0
     cases q:isS L s 1 progB with
     |true=>
      obtain⟨hpl,he0⟩:=is_room q
      obtain⟨p,e⟩:=s
      simp only at hpl he0
      subst he0
      have HC:Hid (∀k,progsS L (k+1) (p,0) ps=if 8≤ps.length then (ps,(p,6)) else progsS L k ((parseR L p).2.1.toNat,(parseR L p).2.2) (ps++[((parseR L p).1,p)])):=xhd (fun k=>by conv=> { lhs;unfold progsS };rw [if_pos (.inl q)])
      go_wp2_with fail
      have h1:=HIS.out _ _ HP.out.rd ⟨#[112,114,111,103]⟩
      rw [show (⟨#[112,114,111,103]⟩:ByteArray).data.toList=progB from rfl,q] at h1
      refine h1.mono ?_
      rintro r wHI1 ⟨rfl,nx,hwx⟩
      have HI1:=xhd (HP.out.drawn nx)
      rw [←hwx] at HI1
      clear h1 hwx nx
      clear q
      have hq10:=ownsRow_shape HI1.out.qr
      obtain⟨aq0,cq0,hvq,_,_⟩:=hq10
      subst hvq
      obtain⟨c0,c1,c2,c3,c4,cf⟩:=five_cells HI1.out.st
      clear cf
      go_wp2_with fail
      have h1:=HLO.out _ _ HI1.out.rd (xs.length:Nat) 8
      rw [show longS (p,0) (xs.length:Nat) 8=_ from long_is p xs.length 8] at h1
      by_cases h8:8≤xs.length
      ·rw [decide_eq_true h8,if_pos h8] at h1
       refine h1.mono ?_
       rintro r wy ⟨rfl,t1⟩
       have HY:=xhd (HI1.out.read t1)
       clear h1 t1
       have HE:Hid (G=(ps,(p,6))):=xhd (HST.out.symm.trans ((HC.out m).trans (if_pos (by rw [HPL.out.2.2.1];exact h8))))
       go_wp2_with fail
       go_meet
       exact⟨(p,6),_,xs,ps,qs,hx8,HPL,HY,xhd (HG0.out.trans HE.out)⟩
      ·rw [decide_eq_false h8,if_neg h8] at h1
       refine h1.mono ?_
       rintro r wy ⟨rfl,t1⟩
       have HY:=xhd (HI1.out.read t1)
       clear h1 t1 c0 c1 c2 c3 c4
       have hpL:p≤L.length:=HY.out.rd.le
       obtain⟨d,hd1,hd2⟩:=parse_place hpL
       have hsm:=parse_small hpL
       have HGX:Hid (progsS L m ((parseR L p).2.1.toNat,(parseR L p).2.2) (ps++[((parseR L p).1,p)])=G):=xhd (by
        have hs:=HST.out
        rw [HC.out,if_neg (by rw [HPL.out.2.2.1];exact h8)] at hs
        exact hs)
       obtain⟨⟨⟨pf,pl⟩,pn,pe⟩,hpr⟩:∃z,parseR L (p:Nat)=z:=⟨_,rfl⟩
       rw [hpr] at hd1 hsm HGX
       simp only at hd1 hsm HGX
       subst hd1
       have hql:qs.length≤8:=by rw [HPL.out.2.1,List.length_map,HPL.out.2.2.1];exact hx8
       have HPR:=xhd hpr
       have HSM:=xhd hsm
       have HDD:=xhd hd2
       obtain⟨r0,r1,r2⟩:=op_cells HY.out.rd.rd
       have HA21:=xhd (HY.out.below ((Below.refl _ _).alloc (Nat.le_refl _) (.cells #[.int .i64 (p:Nat)] 3)))
       clear hpr hsm hd2
       go_wp2_with (at_builtin;refine wpList_append_at _ rfl _ _ 22 rfl 3 gi (.int .i64 0) 1 8 Tryz.underlying22 hgi gz0 gz1 gz2 rfl (by decide) _ qs.length (cellsOf gC qs) rfl (row_base HA21.out.qr (Nat.zero_le _)) ⟨_,0,none⟩ 1 1 [.int .i64 (p:Nat)] rfl (by decide) rfl ?c1 (gC_one _) ?c3 ?c4 ?_)
       try (case c1=>exact one_new _ _ _)
       try (case c3=>(unfold maxLen;omega))
       try (case c4=>omega)
       intro g21 k21 w21 hown hg hor _ _
       have HP21:=xhd (HA21.out.place (x:=(p:Nat)) hown hg (fun q hq=>by
        simp only [Value.ownBlock,Option.toList,List.mem_singleton] at hq
        subst hq
        rcases hor with h|h
        ·exact .inl (by rw [h];simp)
        ·exact .inr (by simp only [World.size_alloc];exact h)))
       clear r0 r1 r2 hown hg hor
       obtain⟨qs2,hqs2⟩:∃l,qs++[((p:Nat):Int)]=l:=⟨_,rfl⟩
       have HQS:=xhd hqs2
       rw [hqs2] at HP21
       obtain⟨r0,r1,r2⟩:=op_cells HP21.out.rd.rd
       clear hqs2
       go_wp2_with fail
       have h1:=HPG.out _ HP21.out.rd.ws (p:Nat)
       rw [HPR.out] at h1
       unfold ParseP at h1
       refine h1.mono ?_
       rintro e w22 ⟨v,rfl,hrow,hb⟩
       obtain⟨av,vcap,hv,_,_⟩:=ownsRow_shape hrow
       subst hv
       have HP22:=xhd (HP21.out.below hb)
       have HRW:=xhd (row_base hrow (show w.heap.size+3≤w21.heap.size from HP21.out.siz))
       clear h1 hrow hb r0 r1 r2
       obtain⟨c0,c1,c2,c3,c4,cf⟩:=five_cells HP22.out.st
       have lst:=lt_of_block HP22.out.st
       have hbx:Below w22.heap.size w22 ((w22.alloc (.cells #[.bool pf, .slice av pl.length vcap] 49)).alloc (.cells #[.bool pf, .slice av pl.length vcap] 49)):=((Below.refl _ w22).alloc (Nat.le_refl _) _).alloc (by simp) _
       have HA23:=xhd (HP22.out.below hbx)
       have HRX:=xhd (row_below HRW.out hbx)
       have hnews:=two_at w22 (.bool pf) (.slice av pl.length vcap) 49
       clear hbx cf
       go_wp2_with (at_builtin;refine wpList_append_at _ rfl _ _ 24 rfl 49 pi (.agg #[.bool false, .slice none 0 0]) 2 32 Tryz.underlying24 hpi pz0 pz1 pz2 rfl (by decide) _ xs.length (cellsOf pgC xs) rfl (row_base HA23.out.pr (Nat.zero_le _)) ⟨_,0,none⟩ 1 1 [.bool pf, .slice av pl.length vcap] rfl (by decide) rfl ?c1 ?c2 ?c3 ?c4 ?_)
       try (case c1=>exact hnews)
       try (case c2=>exact pg_one _ _ _ _)
       try (case c3=>(unfold maxLen;omega))
       try (case c4=>omega)
       intro g23 k23 w23 hown hg hor _ _
       have ho:=HA23.out.out hg (row_own HA23.out.pr)
       have hfin:=HA23.out.prog (x:=((pf,pl), .slice av pl.length vcap)) HRX.out hown hg (fun q hq=>by
        simp only [Value.ownBlock,Option.toList,List.mem_singleton] at hq
        subst hq
        rcases hor with h|h
        ·exact .inl (by rw [h];simp)
        ·exact .inr (by simp only [World.size_alloc];exact h))
       obtain⟨e0,e1,e2,e3,e4,ef⟩:=five_cells ho.2.1
       have ef4:=ef 4
       obtain⟨q0,q1,q2⟩:=op_cells ho.1.rd
       have qf1:=frozen_of_row _ _ 1 _ _ ho.1.rd
       have qf2:=frozen_of_row _ _ 2 _ _ ho.1.rd
       have lq:=lt_of_block ho.1.rd
       have h24:=hfin.rd.setAt (c':=d) HDD.out
       have h25:=h24.1.setBad pe
       have HP25:=xhd ((hfin.read h24).read h25)
       obtain⟨xs2,hxs2⟩:∃l,xs++[((pf,pl),Value.slice av pl.length vcap)]=l:=⟨_,rfl⟩
       have hlen:xs2.length=xs.length+1:=by rw [←hxs2];simp
       have HXS:=xhd hxs2
       rw [hxs2] at HP25
       clear hown hg hor ho hfin ef h24 h25 hxs2 c0 c1 c2 c3 c4 hnews lst
       go_wp2
       go_roundg (10 - xs2.length)
       case measure=>omega
       case rel=>exact⟨(d,pe),_,xs2,ps++[((pf,pl),p)],qs2,rfl,by omega,xhd (by
        have h0:=HPL.out
        refine⟨?_,?_,?_,?_⟩
        ·rw [←HXS.out,List.map_append,List.map_append,h0.1]
         rfl
        ·rw [←HQS.out,h0.2.1,List.map_append]
         rfl
        ·rw [List.length_append,h0.2.2.1,hlen]
         rfl
        ·intro x hx
         rcases List.mem_append.1 hx with hx|hx
         ·exact h0.2.2.2 x hx
         ·simp only [List.mem_singleton] at hx
          subst hx
          exact HSM.out),HP25,xhd (by
        have hx:=HGX.out
        rw [Int.toNat_natCast] at hx
        rw [show 10 - xs2.length=m by omega]
        exact hx)⟩
     |false=>
      obtain⟨p,e⟩:=s
      have HQQ:=xhd q
      go_wp2_with fail
      have h1:=HIS.out _ _ HP.out.rd ⟨#[112,114,111,103]⟩
      rw [show (⟨#[112,114,111,103]⟩:ByteArray).data.toList=progB from rfl,q] at h1
      refine h1.mono ?_
      rintro r wHI1 ⟨rfl,nx,hwx⟩
      have HI1:=xhd (HP.out.drawn nx)
      rw [←hwx] at HI1
      clear h1 hwx nx
      obtain⟨r0,r1,r2⟩:=op_cells HI1.out.rd.rd
      obtain⟨c0,c1,c2,c3,c4,cf⟩:=five_cells HI1.out.st
      clear cf q
      by_cases h0:xs.length=0
      ·have l0:((xs.length:Int) == 0)=true:=by
         rw [beq_iff_eq]
         omega
       have l1:(xs.length:Int)=0:=by omega
       by_cases he:e=0
       ·subst he
        have HC:Hid (∀k,progsS L (k+1) (p,0) ps=if 8≤ps.length then (ps,(p,6)) else progsS L k ((parseR L p).2.1.toNat,(parseR L p).2.2) (ps++[((parseR L p).1,p)])):=xhd (fun k=>by conv=> { lhs;unfold progsS };rw [if_pos (.inr ⟨by rw [HPL.out.2.2.1];exact h0,rfl⟩)])
        go_upto_region 20 with (fail)
        clear c0 c1 c2 c3 c4 r0 r1 r2 l0 l1 h0
        have hq10:=ownsRow_shape HI1.out.qr
        obtain⟨aq0,cq0,hvq,_,_⟩:=hq10
        subst hvq
        obtain⟨c0,c1,c2,c3,c4,cf⟩:=five_cells HI1.out.st
        clear cf
        go_wp2_with fail
        have h1:=HLO.out _ _ HI1.out.rd (xs.length:Nat) 8
        rw [show longS (p,0) (xs.length:Nat) 8=_ from long_is p xs.length 8] at h1
        by_cases h8:8≤xs.length
        ·rw [decide_eq_true h8,if_pos h8] at h1
         refine h1.mono ?_
         rintro r wy ⟨rfl,t1⟩
         have HY:=xhd (HI1.out.read t1)
         clear h1 t1
         have HE:Hid (G=(ps,(p,6))):=xhd (HST.out.symm.trans ((HC.out m).trans (if_pos (by rw [HPL.out.2.2.1];exact h8))))
         go_wp2_with fail
         go_meet
         exact⟨(p,6),_,xs,ps,qs,hx8,HPL,HY,xhd (HG0.out.trans HE.out)⟩
        ·rw [decide_eq_false h8,if_neg h8] at h1
         refine h1.mono ?_
         rintro r wy ⟨rfl,t1⟩
         have HY:=xhd (HI1.out.read t1)
         clear h1 t1 c0 c1 c2 c3 c4
         have hpL:p≤L.length:=HY.out.rd.le
         obtain⟨d,hd1,hd2⟩:=parse_place hpL
         have hsm:=parse_small hpL
         have HGX:Hid (progsS L m ((parseR L p).2.1.toNat,(parseR L p).2.2) (ps++[((parseR L p).1,p)])=G):=xhd (by
          have hs:=HST.out
          rw [HC.out,if_neg (by rw [HPL.out.2.2.1];exact h8)] at hs
          exact hs)
         obtain⟨⟨⟨pf,pl⟩,pn,pe⟩,hpr⟩:∃z,parseR L (p:Nat)=z:=⟨_,rfl⟩
         rw [hpr] at hd1 hsm HGX
         simp only at hd1 hsm HGX
         subst hd1
         have hql:qs.length≤8:=by rw [HPL.out.2.1,List.length_map,HPL.out.2.2.1];exact hx8
         have HPR:=xhd hpr
         have HSM:=xhd hsm
         have HDD:=xhd hd2
         obtain⟨r0,r1,r2⟩:=op_cells HY.out.rd.rd
         have HA21:=xhd (HY.out.below ((Below.refl _ _).alloc (Nat.le_refl _) (.cells #[.int .i64 (p:Nat)] 3)))
         clear hpr hsm hd2
         go_wp2_with (at_builtin;refine wpList_append_at _ rfl _ _ 22 rfl 3 gi (.int .i64 0) 1 8 Tryz.underlying22 hgi gz0 gz1 gz2 rfl (by decide) _ qs.length (cellsOf gC qs) rfl (row_base HA21.out.qr (Nat.zero_le _)) ⟨_,0,none⟩ 1 1 [.int .i64 (p:Nat)] rfl (by decide) rfl ?c1 (gC_one _) ?c3 ?c4 ?_)
         try (case c1=>exact one_new _ _ _)
         try (case c3=>(unfold maxLen;omega))
         try (case c4=>omega)
         intro g21 k21 w21 hown hg hor _ _
         have HP21:=xhd (HA21.out.place (x:=(p:Nat)) hown hg (fun q hq=>by
          simp only [Value.ownBlock,Option.toList,List.mem_singleton] at hq
          subst hq
          rcases hor with h|h
          ·exact .inl (by rw [h];simp)
          ·exact .inr (by simp only [World.size_alloc];exact h)))
         clear r0 r1 r2 hown hg hor
         obtain⟨qs2,hqs2⟩:∃l,qs++[((p:Nat):Int)]=l:=⟨_,rfl⟩
         have HQS:=xhd hqs2
         rw [hqs2] at HP21
         obtain⟨r0,r1,r2⟩:=op_cells HP21.out.rd.rd
         clear hqs2
         go_wp2_with fail
         have h1:=HPG.out _ HP21.out.rd.ws (p:Nat)
         rw [HPR.out] at h1
         unfold ParseP at h1
         refine h1.mono ?_
         rintro e w22 ⟨v,rfl,hrow,hb⟩
         obtain⟨av,vcap,hv,_,_⟩:=ownsRow_shape hrow
         subst hv
         have HP22:=xhd (HP21.out.below hb)
         have HRW:=xhd (row_base hrow (show w.heap.size+3≤w21.heap.size from HP21.out.siz))
         clear h1 hrow hb r0 r1 r2
         obtain⟨c0,c1,c2,c3,c4,cf⟩:=five_cells HP22.out.st
         have lst:=lt_of_block HP22.out.st
         have hbx:Below w22.heap.size w22 ((w22.alloc (.cells #[.bool pf, .slice av pl.length vcap] 49)).alloc (.cells #[.bool pf, .slice av pl.length vcap] 49)):=((Below.refl _ w22).alloc (Nat.le_refl _) _).alloc (by simp) _
         have HA23:=xhd (HP22.out.below hbx)
         have HRX:=xhd (row_below HRW.out hbx)
         have hnews:=two_at w22 (.bool pf) (.slice av pl.length vcap) 49
         clear hbx cf
         go_wp2_with (at_builtin;refine wpList_append_at _ rfl _ _ 24 rfl 49 pi (.agg #[.bool false, .slice none 0 0]) 2 32 Tryz.underlying24 hpi pz0 pz1 pz2 rfl (by decide) _ xs.length (cellsOf pgC xs) rfl (row_base HA23.out.pr (Nat.zero_le _)) ⟨_,0,none⟩ 1 1 [.bool pf, .slice av pl.length vcap] rfl (by decide) rfl ?c1 ?c2 ?c3 ?c4 ?_)
         try (case c1=>exact hnews)
         try (case c2=>exact pg_one _ _ _ _)
         try (case c3=>(unfold maxLen;omega))
         try (case c4=>omega)
         intro g23 k23 w23 hown hg hor _ _
         have ho:=HA23.out.out hg (row_own HA23.out.pr)
         have hfin:=HA23.out.prog (x:=((pf,pl), .slice av pl.length vcap)) HRX.out hown hg (fun q hq=>by
          simp only [Value.ownBlock,Option.toList,List.mem_singleton] at hq
          subst hq
          rcases hor with h|h
          ·exact .inl (by rw [h];simp)
          ·exact .inr (by simp only [World.size_alloc];exact h))
         obtain⟨e0,e1,e2,e3,e4,ef⟩:=five_cells ho.2.1
         have ef4:=ef 4
         obtain⟨q0,q1,q2⟩:=op_cells ho.1.rd
         have qf1:=frozen_of_row _ _ 1 _ _ ho.1.rd
         have qf2:=frozen_of_row _ _ 2 _ _ ho.1.rd
         have lq:=lt_of_block ho.1.rd
         have h24:=hfin.rd.setAt (c':=d) HDD.out
         have h25:=h24.1.setBad pe
         have HP25:=xhd ((hfin.read h24).read h25)
         obtain⟨xs2,hxs2⟩:∃l,xs++[((pf,pl),Value.slice av pl.length vcap)]=l:=⟨_,rfl⟩
         have hlen:xs2.length=xs.length+1:=by rw [←hxs2];simp
         have HXS:=xhd hxs2
         rw [hxs2] at HP25
         clear hown hg hor ho hfin ef h24 h25 hxs2 c0 c1 c2 c3 c4 hnews lst
         go_wp2
         go_roundg (10 - xs2.length)
         case measure=>omega
         case rel=>exact⟨(d,pe),_,xs2,ps++[((pf,pl),p)],qs2,rfl,by omega,xhd (by
          have h0:=HPL.out
          refine⟨?_,?_,?_,?_⟩
          ·rw [←HXS.out,List.map_append,List.map_append,h0.1]
           rfl
          ·rw [←HQS.out,h0.2.1,List.map_append]
           rfl
          ·rw [List.length_append,h0.2.2.1,hlen]
           rfl
          ·intro x hx
           rcases List.mem_append.1 hx with hx|hx
           ·exact h0.2.2.2 x hx
           ·simp only [List.mem_singleton] at hx
            subst hx
            exact HSM.out),HP25,xhd (by
          have hx:=HGX.out
          rw [Int.toNat_natCast] at hx
          rw [show 10 - xs2.length=m by omega]
          exact hx)⟩
       ·have ee:(e == 0)=false:=by simpa using he
        have HE:Hid (G=(ps,(p,e))):=xhd (HST.out.symm.trans (by
         unfold progsS
         rw [if_neg (by
          rintro (h|h)
          ·rw [HQQ.out] at h
           cases h
          ·exact he h.2)]))
        go_wp2_with fail
        go_meet
        exact⟨(p,e),_,xs,ps,qs,hx8,HPL,HI1,xhd (HG0.out.trans HE.out)⟩
      ·have l0:((xs.length:Int) == 0)=false:=by
         rw [beq_eq_false_iff_ne]
         omega
       have l1:¬(xs.length:Int)=0:=by omega
       have HE:Hid (G=(ps,(p,e))):=xhd (HST.out.symm.trans (by
        unfold progsS
        rw [if_neg (by
         rintro (h|h)
         ·rw [HQQ.out] at h
          cases h
         ·exact h0 (by rw [←HPL.out.2.2.1];exact h.1))]))
       go_wp2_with fail
       go_meet
       exact⟨(p,e),_,xs,ps,qs,hx8,HPL,HI1,xhd (HG0.out.trans HE.out)⟩
   case rest=>
    obtain⟨s7,vp,xs,ps,qs,hx8,HPL,HP7,HG7⟩:=hcut
    clear HP6
    have hrest:restS L s4=(gs,ls,ps,s7):=by
     unfold restS
     simp only [HG5.out,HG6.out,HG7.out]
    have hRR:=HR.out
    simp only [HH.out,hrest] at hRR
    obtain⟨p,e⟩:=s7
    simp only at hRR
    obtain⟨ag,bg,cg,hvg,hga⟩:=IArg.of_row HP7.out.gr
    obtain⟨al,bl,cl,hvl,hla⟩:=LArg.of_row HP7.out.lr
    obtain⟨ap,bp,cp,hvp,hpa⟩:=GArg.of_row HP7.out.pr HP7.out.po
    obtain⟨aq,bq,cq,hvq,hqa⟩:=IArg.of_row HP7.out.qr
    subst hvg hvl hvp hvq
    obtain⟨np,hnp⟩:∃z,xs.length=z:=⟨_,rfl⟩
    have HNP:=xhd hnp
    have hst:=HP7.out.st
    rw [hnp] at hst hx8
    obtain⟨P,hP⟩:∃z,xs.map (·.1)=z:=⟨_,rfl⟩
    rw [hP] at hpa
    have hPL:P.length=np:=by rw [←hP,List.length_map,hnp]
    have HPS:Hid (P=ps.map (·.1)∧P.length=np∧qs=ps.map (fun x=>((x.2:Nat):Int))∧ps.length=np∧qs.length=np∧∀x ∈ P,x.2.length≤12∧∀o ∈ x.2,small o.1):=xhd (by
     have h0:=HPL.out
     refine⟨by rw [←hP];exact h0.1,hPL,h0.2.1,by rw [h0.2.2.1,hnp],by rw [h0.2.1,List.length_map,h0.2.2.1,hnp],fun x hx=>?_⟩
     rw [←hP,h0.1] at hx
     obtain⟨y,hy,rfl⟩:=List.mem_map.1 hx
     exact h0.2.2.2 y hy)
    have HCK:Hid (∀V,Below wc.heap.size wc V→∀i (hi:i < P.length) (ai:Option Addr) (bi oi ci:Nat),OArg V ai bi oi (P[i]).2→Calls Tryz.prog 52 #[prgV (P[i]).1 ai (P[i]).2.length ci, .slice al ls.length cl, .int .i64 (np:Nat)] V (CkP (checkR P[i] ls (np:Nat)) V)):=xhd (fun V hV i hi ai bi oi ci ho=>rcheck_any (P[i]).1 ai bi oi ci (P[i]).2 al bl 0 cl ls (np:Nat) V ho (hla.below hV) (HPS.out.2.2.2.2.2 _ (List.getElem_mem hi)).2 (by have:=(HPS.out.2.2.2.2.2 _ (List.getElem_mem hi)).1;omega) (by omega))
    have HGA:=xhd hga
    have HLA:=xhd hla
    have HPA:=xhd hpa
    have HQA:=xhd hqa
    have HST4:=xhd hst
    have HP8:=HP7
    have HZS:=xhd HP7.out.rs
    have HRD:=xhd HP7.out.rd.rd
    have HBL:=xhd HP7.out.bel
    have HRR:=xhd hRR
    have lst:=lt_of_block hst
    obtain⟨r0,r1,r2⟩:=op_cells HRD.out
    have zz:=five_cells HZS.out
    obtain⟨z0,z1,z2,z3,z4,zf⟩:=zz
    have zf0:=zf 0
    have zf1:=zf 1
    have zf2:=zf 2
    have zf3:=zf 3
    have zf4:=zf 4
    have HPP:=xhd hP
    clear hrest hRR hga hla hpa hqa hst hnp hP hPL zf HG5 HG6 HG7 HP7 HPL
    by_cases he:e=0
    ·subst he
     clear z0 z1 z2 z3 z4 zf0 zf1 zf2 zf3 zf4
     have HR0:=xhd (HRR.out.trans (if_neg (by simp)))
     go_wp2_with fail
     go_loopw [14] (fun s wr=>∃i:Nat,s= .int .i64 (i:Nat)∧i≤np∧Hid (Below wc.heap.size wc wr)∧Hid (∀j (hj:j < P.length),j < i→(checkR P[j] ls (np:Nat)).2=0)) (fun s _=>np - (intOf s).toNat)
     case atStart=>exact⟨0,rfl,Nat.zero_le _,Below.refl _ _,fun j _ hj=>absurd hj (Nat.not_lt_zero _)⟩
     case round=>
      clear r0 r1 r2
      obtain⟨i,rfl,hi,HB,HO⟩:=hrel
      obtain⟨c0,c1,c2,c3,c4, -⟩:=five_cells ((HB.out.block _ lst).trans HST4.out)
      by_cases hlt:i < np
      ·have hiL:i < P.length:=by rw [HPS.out.2.1];exact hlt
       have HB1:=xhd HB.out.drew
       have hst1:=(HB1.out.block _ lst).trans HST4.out
       have hA:=HPA.out.below HB1.out
       obtain⟨rfl,hbl⟩:=hA.at_ (by omega)
       obtain⟨ai,bi,oi,ci,x0,x1,ho⟩:=hA.cells i hiL
       have hck:=HCK.out _ HB1.out i hiL ai bi oi ci ho
       obtain⟨⟨pf,pl⟩,hx⟩:∃x,P[i]=x:=⟨_,rfl⟩
       simp only [hx,Nat.zero_add] at x0 x1 hck
       have HX:=xhd hx
       have p0:=And.intro (five_cells hst1).2.2.2.1 (And.intro (five_cells hst1).2.2.2.2.1 (And.intro x0 x1))
       have i0:(0:Int)≤i:=by omega
       have i1:(i:Int) < np:=by omega
       have i2:IntKind.i64.wrap ((i:Int)+1)=(i:Int)+1:=by rw [IntKind.wrap_i64];omega
       obtain⟨⟨ri,re⟩,hre⟩:∃r,checkR (pf,pl) ls (np:Nat)=r:=⟨_,rfl⟩
       rw [hre] at hck
       have HCI:=xhd hck
       have HRE:=xhd hre
       have HL2:=xhd (show w.heap.size+2 < wr.drew.heap.size from Nat.lt_of_lt_of_le lst HB1.out.size)
       clear hA hx ho hck hre hst1 x0 x1
       go_wp2_with fail
       go_region_held3 (fun V=>V.cell? ⟨w.heap.size+2,3,none⟩=some (.slice al ls.length cl)∧V.cell? ⟨w.heap.size+2,4,none⟩=some (.slice (some ⟨bp,0,none⟩) np cp)∧V.cell? ⟨bp,i*2,none⟩=some (.bool pf)∧V.cell? ⟨bp,i*2+1,none⟩=some (.slice ai pl.length ci))
        (first|exact p0|exact p1)
        (first
          |(go_at_call 52
            with_reducible refine HCI.out.mono ?_
            rintro r V1 ⟨rfl,hb⟩
            have HV1:=xhd (HB1.out.trans (hb.mono HB1.out.size))
            have p1:=And.intro ((hb.cell (p:=⟨w.heap.size+2,3,none⟩) HL2.out).trans p0.1) (And.intro ((hb.cell (p:=⟨w.heap.size+2,4,none⟩) HL2.out).trans p0.2.1) (And.intro ((hb.cell (p:=⟨bp,i*2,none⟩) hbl).trans p0.2.2.1) ((hb.cell (p:=⟨bp,i*2+1,none⟩) hbl).trans p0.2.2.2)))
            clear hb))
       clear p0 p1 c0 c1 c2 c3 c4
       by_cases hr0:re=0
       ·subst hr0
        have HO2:Hid (∀j (hj:j < P.length),j < i+1→(checkR P[j] ls (np:Nat)).2=0):=xhd (fun j hj hji=>by
         rcases Nat.lt_or_ge j i with h|h
         ·exact HO.out j hj h
         ·obtain rfl:j=i:=by omega
          rw [HX.out,HRE.out])
        go_wp2
        go_roundw
        case rel=>exact⟨i+1,by go_num,by omega,HV1,HO2⟩
        case measure=>simp [intOf];omega
       ·have rr:(re == 0)=false:=by simpa using hr0
        have rn:(re != 0)=true:=by simpa using hr0
        have hqi:i < qs.length:=by rw [HPS.out.2.2.2.2.1];exact hlt
        have hQ:=HQA.out.below HV1.out
        obtain⟨rfl,hbq⟩:=hQ.at_ (by omega)
        have y0:=hQ.cells i hqi
        rw [Nat.zero_add] at y0
        obtain⟨y,hy⟩:∃y,qs[i]=y:=⟨_,rfl⟩
        rw [hy] at y0
        obtain⟨nq,hnq⟩:∃z,qs.length=z:=⟨_,rfl⟩
        have i3:(i:Int) < nq:=by omega
        have HE:Hid (R=(noneS,y,re)):=xhd (by
         have hpi:i < ps.length:=by rw [HPS.out.2.2.2.1];exact hlt
         have hPp:∀j (hj:j < P.length) (hj2:j < ps.length),P[j]=(ps[j]).1:=by
          have h1:=HPS.out.1
          subst h1
          intro j hj hj2
          simp
         have hun:=unfit_first (locks:=ls) (n:=(ps.length:Nat)) i hpi (fun j hj hji=>by
          have h2:=HO.out j (by rw [HPS.out.2.1, ←HPS.out.2.2.2.1];exact hj) hji
          rw [hPp j _ hj] at h2
          rw [HPS.out.2.2.2.1]
          exact h2) (by
          rw [←hPp i hiL hpi,HX.out,HPS.out.2.2.2.1,HRE.out]
          exact hr0)
         have h3:=HR0.out
         rw [hun] at h3
         simp only at h3
         rw [h3, ←hPp i hiL hpi,HX.out,HPS.out.2.2.2.1,HRE.out, ←hy]
         have h4:=HPS.out.2.2.1
         subst h4
         simp)
        have HZ1:=xhd ((HV1.out.block _ (by omega)).trans HZS.out)
        obtain⟨z0,z1,z2,z3,z4,zf⟩:=five_cells HZ1.out
        have zf0:=zf 0
        have zf1:=zf 1
        have zf2:=zf 2
        have zf3:=zf 3
        have zf4:=zf 4
        have HFI:=xhd (st_stored HZ1.out (HBL.out.trans (HV1.out.mono HBL.out.size)) (.int .i64 0) (.int .i64 0) (.slice none 0 0) (.slice none 0 0) (.slice none 0 0))
        have hqN:w.heap.size+3≤bq:=row_own HP8.out.qr bq rfl
        have hq1:bq≠w.heap.size:=by omega
        have hq2:w.heap.size≠bq:=by omega
        rw [hnq]
        clear hQ hy hnq zf
        go_wp2_with fail
        go_region
        go_wp2
        (try simp only [Exit.inBlock,Exit.then])
        refine bodyPost_ret (st_res rfl rfl rfl rfl HFI.out.1) rfl ?_
        exact parse_badS HE.out HFI.out.2.drew
      ·have hun:unfitS ls (ps.length:Nat) ps=none:=by
         apply unfit_none
         intro x hx
         obtain⟨j,hj,rfl⟩:=List.getElem_of_mem hx
         have hPp:∀j (hj:j < P.length) (hj2:j < ps.length),P[j]=(ps[j]).1:=by
          have h1:=HPS.out.1
          subst h1
          intro j hj hj2
          simp
         have h2:=HO.out j (by rw [HPS.out.2.1, ←HPS.out.2.2.2.1];exact hj) (by have:=HPS.out.2.2.2.1;omega)
         rw [hPp j _ hj] at h2
         rw [HPS.out.2.2.2.1]
         exact h2
       have HE:Hid (R=((c,g,gs,ls,P),((p:Nat):Int),0)):=xhd (by
        have h3:=HR0.out
        rw [hun] at h3
        simp only at h3
        rw [h3,HPS.out.1])
       have ni:¬(i:Int) < np:=by omega
       have HZ1:=xhd ((HB.out.block _ (by omega)).trans HZS.out)
       obtain⟨z0,z1,z2,z3,z4,zf⟩:=five_cells HZ1.out
       obtain⟨r0,r1,r2⟩:=op_cells ((HB.out.block _ (lt_of_block HRD.out)).trans HRD.out)
       have zf0:=zf 0
       have zf1:=zf 1
       have zf2:=zf 2
       have zf3:=zf 3
       have zf4:=zf 4
       have HFI:=xhd (st_stored HZ1.out (HBL.out.trans (HB.out.mono HBL.out.size)) (.int .i64 c) (.int .i64 g) (.slice ag gs.length cg) (.slice al ls.length cl) (.slice ap np cp))
       have HAN:=xhd ((HP8.out.below HB.out).answered (.int .i64 c) (.int .i64 g) (.slice ag gs.length cg) (.slice al ls.length cl) (.slice ap np cp))
       clear hun zf
       go_wp2_with fail
       go_region
       go_wp2
       refine bodyPost_ret (st_res rfl rfl rfl rfl HFI.out.1) rfl ?_
       obtain⟨ag',bg',cg',al',bl',cl',ap',bp',cp',v1,v2,v3,hsa⟩:=HAN.out
       simp only [Value.slice.injEq] at v1 v2 v3
       obtain⟨rfl, -,rfl⟩:=v1
       obtain⟨rfl, -,rfl⟩:=v2
       obtain⟨rfl, -,rfl⟩:=v3
       rw [HPP.out] at hsa
       unfold ParseSK
       rw [HE.out]
       refine⟨ag,bg',0,cg,al,bl',0,cl,ap,bp',0,cp,?_,hsa,HFI.out.2.drew⟩
       show _=Ending.returned (.tuple #[.agg (stC c g ag gs.length cg al ls.length cl ap P.length cp), .int .i64 (p:Nat), .int .i64 0])
       rw [HPS.out.2.1]
       rfl
    ·have ee:(e == 0)=false:=by simpa using he
     have en:(e != 0)=true:=by simpa using he
     have HE:Hid (R=(noneS,((p:Nat):Int),e)):=xhd (HRR.out.trans (if_pos he))
     have HFI:=xhd (st_stored HZS.out HBL.out (.int .i64 0) (.int .i64 0) (.slice none 0 0) (.slice none 0 0) (.slice none 0 0))
     go_wp2_with fail
     go_region
     go_wp2
     refine bodyPost_ret (st_res rfl rfl rfl rfl HFI.out.1) rfl ?_
     exact parse_badS HE.out HFI.out.2.drew
end Go.Proofs.YtbnhnnccioljhaaGreatDoor
