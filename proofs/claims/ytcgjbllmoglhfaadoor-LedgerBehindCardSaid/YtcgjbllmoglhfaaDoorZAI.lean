/-
  LedgerBehind: how far a V grows; sets of parties.
  LedgerBehind: the walk, given what is said of the program's ledger. (Made by gen_lgbeh.py.)
-/
import Derived.Test.YtcgjbllmoglhfaaDoorZAB
import Derived.Test.YtcgjbllmoglhfaaDoorZAC
import Derived.Test.YtcgjbllmoglhfaaDoorZAG
import Derived.Deep.CutRange
import Derived.Deep.CutBlock
import Derived.StillTailTactics
import Derived.Laws.Bits64b
import Derived.Test.YtcgjbllmoglhfaaDoorZAl
set_option maxRecDepth 100000
set_option maxHeartbeats 25600000
namespace Go.Proofs.YtcgjbllmoglhfaaDoor
theorem lock_le {w:Int} (h0:1≤w) (h1:w≤16):lockR w≤720720:=by
 obtain⟨k,rfl⟩:∃k:Nat,w=k:=⟨w.toNat,by omega⟩
 have h0:1≤k:=by omega
 have h1:k≤16:=by omega
 have:∀k:Fin 17,1≤k.val→lockR (k.val:Int)≤720720:=by decide+kernel
 exact this ⟨k,by omega⟩ h0
theorem wt_lock_le {g:Lg} {n:Int} (ho:LgOk g n) (i:Nat):lockR (wtAt g.l i)≤720720:=by
 rw [wtAt_nat]
 cases h:g.l[i]? with
 |none=>decide+kernel
 |some x=>
  have:=ho.wt x (List.mem_iff_getElem?.2 ⟨i,h⟩)
  exact lock_le this.1 this.2
theorem v_ge {g:Lg} {n:Int} (ho:LgOk g n) (i:Nat):0≤vAt g.l i:=by
 rw [vAt_nat]
 cases h:g.l[i]? with
 |none=>exact Int.le_refl _
 |some x=>exact (ho.v x (List.mem_iff_getElem?.2 ⟨i,h⟩)).1
theorem v_grows {g:Lg} {n:Int} (ho:LgOk g n) (p:Int) (i:Nat) {c:Int} (hc:vAt g.l i≤c):vAt (g.charge p).l i≤c+720720:=by
 by_cases hp:isP g p=true
 ·obtain⟨j,rfl,hj⟩:=isP_nat hp
  rw [v_charge hj]
  have h1:=wt_lock_le ho i
  split
  ·unfold satV
   split<;>omega
  ·omega
 ·have:g.charge p=g:=by
    unfold Lg.charge
    rw [if_neg hp]
  rw [this]
  omega
theorem v_new (ws:List Int) (s c:Int) (i:Nat):vAt (Lg.new ws s c).l i=0:=by
 rw [vAt_nat]
 show ((((ws.take 8).map fun w=>(bringR w 1 16,0,0,false))[i]?).map _).getD 0=0
 rw [List.getElem?_map]
 cases (ws.take 8)[i]?<;>rfl
theorem new_len (ws:List Int) (s c:Int) (h:ws.length≤8):(Lg.new ws s c).l.length=ws.length:=by
 show ((ws.take 8).map fun w=>(bringR w 1 16,(0:Int),(0:Int),false)).length=_
 rw [List.length_map,List.length_take]
 omega
theorem all_bits:∀n:Fin 5,∀p:Fin 5,p.val < n.val→∀i:Fin 5,i.val < n.val→hasN (2 ^ n.val - 1) (i.val:Int)=true∧hasN (2 ^ n.val - 1 - 2 ^ p.val) (i.val:Int)=decide (i.val≠p.val):=by
 decide+kernel
theorem all_has {n p:Nat} (hn:n≤4) (hp:p < n):(∀i:Nat,i < n→hasN (2 ^ n - 1) (i:Int)=true)∧(∀i:Nat,i < n→hasN (2 ^ n - 1 - 2 ^ p) (i:Int)=decide (i≠p)):=
 ⟨fun i hi=>(all_bits ⟨n,by omega⟩ ⟨p,by omega⟩ hp ⟨i,by omega⟩ hi).1,fun i hi=>(all_bits ⟨n,by omega⟩ ⟨p,by omega⟩ hp ⟨i,by omega⟩ hi).2⟩
theorem behind_range {g:Lg} {n:Int} (ho:LgOk g n) {p:Nat} (S:Nat) (hv:vAt g.l p≤28828800):0≤g.behind p S∧g.behind p S≤5120:=by
 unfold Lg.behind
 split
 ·have h1:=behindTo_nonneg ho.wt (p:Int) S g.l.length
  have h2:=behindTo_le ho.wt (p:Int) S hv (fun k=>v_ge ho k) g.l.length (Nat.le_refl _)
  have:=ho.len
  omega
 ·omega
end Go.Proofs.YtcgjbllmoglhfaaDoor
namespace Go.Proofs.YtcgjbllmoglhfaaDoor
open Go.RowKit
theorem on_up {C:LgSaid} {w V0 V1:World} {b:Nat} {g:Lg} (hg:C.Good w) (t:Turned [] w V0) (h:LgOn C V0 V1 b g):LgOn C w V1 b g:=by
 obtain⟨_,X,a,t1,n1⟩:=h
 have s:=t.size
 exact⟨hg,X,a,t.also18 t1,fun k hk=>by have:=n1 k hk;omega⟩
theorem least_isJ {g:Lg} {n:Int} (ho:LgOk g n) (S:Nat):isJ (g.least S):=by
 have:=ho.len
 unfold isJ Lg.least
 rcases bestTo_spec g.l S g.l.length with⟨h,_⟩ |⟨j,h,hj,_⟩<;>omega
theorem words4:∀n:Fin 5,∀q:Fin 5,q.val < n.val→IntKind.u64.wrap (IntKind.u64.wrap (2 ^ n.val) - 1)=((2 ^ n.val - 1:Nat):Int)∧bits .andNot .u64 ((2 ^ n.val - 1:Nat):Int) (IntKind.u64.wrap (2 ^ q.val))=((2 ^ n.val - 1 - 2 ^ q.val:Nat):Int):=by
 decide+kernel
theorem all_word {nw q:Nat} (hn:nw≤4) (hq:q < nw):IntKind.u64.wrap (IntKind.u64.wrap (2 ^ nw) - 1)=((2 ^ nw - 1:Nat):Int)∧bits .andNot .u64 ((2 ^ nw - 1:Nat):Int) (IntKind.u64.wrap (2 ^ q))=((2 ^ nw - 1 - 2 ^ q:Nat):Int):=
 words4 ⟨nw,by omega⟩ ⟨q,by omega⟩ hq
structure BhI (nw p:Nat) (n0:Int) (g:Lg) (r:Nat):Prop where
 ok:LgOk g (40+r)
 len:g.l.length=nw
 v:vAt g.l p≤28828800
 bh:g.behind p (2 ^ nw - 1)=n0 - r
theorem BhI.step {nw p:Nat} {n0:Int} {g:Lg} {r:Nat} (h:BhI nw p n0 g r) (hn:nw≤4) (hp:p < nw) (hr:(r:Int) < n0):
  ∃j:Nat,g.least (2 ^ nw - 1 - 2 ^ p)=j∧vAt g.l j < vAt g.l p∧isP g j=true∧BhI nw p n0 (g.charge j) (r+1):=by
 have ha:=all_has hn hp
 obtain⟨j,h1,h2,h3,h4,h5,h6⟩:=behind_step h.ok (p:=p) (by rw [h.len];exact hp) (S:=2 ^ nw - 1) (S':=2 ^ nw - 1 - 2 ^ p) (fun i hi=>ha.1 i (h.len ▸ hi)) (fun i hi=>ha.2 i (h.len ▸ hi)) h.v (by rw [h.bh];omega)
 refine⟨j,h1,h4,by simp [isP,h2],?_,by rw [charge_len];exact h.len,by rw [h6];exact h.v,by rw [h5,h.bh];omega⟩
 have:=h.ok.charge (j:Int)
 rw [show (40:Int)+((r+1:Nat):Int)=40+r+1 by omega]
 exact this
theorem lgbeh_walk (C:LgSaid) (ao:Option Addr) (lb off nw cpw:Nat) (E:Nat→Int) (ao2:Option Addr) (lb2 off2 n cap:Nat) (F:Nat→Dd) (p:Int) (w:World) (hg:C.Good w) (hpj:isJ p)
  (hao:0 < nw→ao=some ⟨lb,off,none⟩∧lb < w.heap.size) (hE:∀i,i < nw→w.cell? ⟨lb,off+i,none⟩=some (.int .i64 (E i))) (hJ:∀i,i < nw→isJ (E i)) (hmw:nw≤maxLen) (hcw:nw≤cpw) (hcm:cpw≤maxLen)
  (hao2:0 < n→ao2=some ⟨lb2,off2,none⟩∧lb2 < w.heap.size)
  (hF:∀i,i < n→w.cell? ⟨lb2,off2+i*4,none⟩=some (.int .u8 (F i).1)∧w.cell? ⟨lb2,off2+i*4+1,none⟩=some (.int .i64 (F i).2.1)∧w.cell? ⟨lb2,off2+i*4+2,none⟩=some (.int .i64 (F i).2.2.1)∧w.cell? ⟨lb2,off2+i*4+3,none⟩=some (.int .u64 (F i).2.2.2))
  (hW:∀i,i < n→wfL (F i)) (hm:n≤maxLen):
  Calls Tryd.prog 5 #[.slice ao nw cpw, .slice ao2 n cap, .int .i64 p] w fun r w'=>r= .returned (.bool true)∧Turned [] w w':=by
 obtain⟨hnp,_⟩:=new_both C hg ao lb off nw cpw E 4 4 hao hE hJ hmw hcw hcm (by unfold isJ;omega) (by unfold isJ;omega)
 unfold maxLen at hm hmw hcm
 have HF:=xhd hF
 have HAO:=xhd hao2
 have HWf:=xhd hW
 have HG:=xhd hg
 have AW:=xhd (fun V (t:Turned [] w V)=>awake18 C V (C.good hg t))
 have HNP:=xhd hnp
 clear hao hao2 hE hF hW hJ hg hnp hcw hcm
 by_cases h4:4 < nw
 ·have h4z:(4:Int) < (nw:Int):=by omega
  go_enter Tryd.func5,Tryd.ntmps5
  go_wp2_with fail
  with_reducible refine (AW.out _ (Turned.refl [] w)).mono ?_
  rintro e w0 ⟨rfl,t0⟩
  have T0:=xhd t0
  clear t0
  go_wp2
  go_ret
  exact⟨rfl,T0.out⟩
 have h4z:¬(4:Int) < (nw:Int):=by omega
 by_cases h40:40 < n
 ·have h40z:(40:Int) < (n:Int):=by omega
  go_enter Tryd.func5,Tryd.ntmps5
  go_wp2_with fail
  with_reducible refine (AW.out _ (Turned.refl [] w)).mono ?_
  rintro e w0 ⟨rfl,t0⟩
  have T0:=xhd t0
  clear t0
  go_wp2
  go_ret
  exact⟨rfl,T0.out⟩
 have h40z:¬(40:Int) < (n:Int):=by omega
 by_cases hp0:p < 0
 ·go_enter Tryd.func5,Tryd.ntmps5
  go_wp2_with fail
  with_reducible refine (AW.out _ (Turned.refl [] w)).mono ?_
  rintro e w0 ⟨rfl,t0⟩
  have T0:=xhd t0
  clear t0
  go_wp2
  go_ret
  exact⟨rfl,T0.out⟩
 by_cases hpn:(nw:Int)≤p
 ·go_enter Tryd.func5,Tryd.ntmps5
  go_wp2_with fail
  with_reducible refine (AW.out _ (Turned.refl [] w)).mono ?_
  rintro e w0 ⟨rfl,t0⟩
  have T0:=xhd t0
  clear t0
  go_wp2
  go_ret
  exact⟨rfl,T0.out⟩
 obtain⟨q,rfl⟩:∃q:Nat,p=q:=⟨p.toNat,by omega⟩
 have hqn:q < nw:=by omega
 have HNW:Hid (nw≤4∧q < nw):=xhd ⟨by omega,hqn⟩
 have hl:(Lg.new ((List.range nw).map E) 4 4).l.length=nw:=by rw [new_len]<;>simp;omega
 have HPJ:=xhd hpj
 have HI0:Hid (LgOk (Lg.new ((List.range nw).map E) 4 4) ((0:Nat):Int)∧(Lg.new ((List.range nw).map E) 4 4).l.length=nw∧∀k:Nat,vAt (Lg.new ((List.range nw).map E) 4 4).l k≤720720*((0:Nat):Int)):=xhd ⟨new_ok _ 4 4,hl,fun k=>by rw [v_new];decide⟩
 generalize Lg.new ((List.range nw).map E) 4 4=g0 at HNP HI0
 clear hl hpj
 go_enter Tryd.func5,Tryd.ntmps5
 go_wp2_with fail
 with_reducible refine (AW.out _ (Turned.refl [] w)).mono ?_
 rintro e w0 ⟨rfl,t0⟩
 have T0:=xhd t0
 clear t0 AW
 go_wp2_with fail
 with_reducible refine (HNP.out _ T0.out).mono ?_
 rintro e V1 ⟨b,rfl,a1⟩
 have HD0:Hid (LgOn C w V1 b g0):=xhd (on_up HG.out T0.out a1)
 clear a1 T0 HNP
 go_wp2_with fail
 go_loopw [37] (fun iv V=>∃(i:Nat) (g:Lg),i≤n∧iv= .int .i64 i∧Hid (LgOn C w V b g)∧Hid (LgOk g (i:Nat)∧g.l.length=nw∧∀k:Nat,vAt g.l k≤720720*(i:Int))) (fun iv _=>n - (intOf iv).toNat)
 case atStart=>exact⟨0,g0,Nat.zero_le _,rfl,HD0,HI0⟩
 case round=>
  clear HD0 HI0
  obtain⟨i,g,hi,rfl,HD,HC⟩:=hrel
  by_cases hlt:i < n
  ·obtain⟨rfl,hlb⟩:=HAO.out (by omega)
   have hcell:=HF.out i hlt
   have hwf:=HWf.out i hlt
   have hbb:=HD.out.t.below (B:=w.heap.size) (by simp) (Nat.le_refl _)
   rw [←hbb.cell (p:=⟨lb2,off2+i*4,none⟩) hlb, ←hbb.cell (p:=⟨lb2,off2+i*4+1,none⟩) hlb, ←hbb.cell (p:=⟨lb2,off2+i*4+2,none⟩) hlb, ←hbb.cell (p:=⟨lb2,off2+i*4+3,none⟩) hlb] at hcell
   obtain⟨z1,z2,z3,z4⟩:=hcell
   obtain⟨⟨dk,d1,d2,d3⟩,hdd⟩:∃z,F i=z:=⟨_,rfl⟩
   simp only [hdd] at z1 z2 z3 z4 hwf
   clear hdd hbb
   obtain⟨hw0,hw1,hw2,hw3,hw4⟩:=hwf
   simp only at hw0 hw1 hw2 hw3 hw4
   obtain⟨S,rfl⟩:∃S:Nat,d3=S:=⟨d3.toNat,by omega⟩
   have H1:Hid (LgBx C w (wr.alloc (.cells #[.int .u8 dk, .int .i64 d1, .int .i64 d2, .int .u64 (S:Int)] 32)) b wr.heap.size (.cells #[.int .u8 dk, .int .i64 d1, .int .i64 d2, .int .u64 (S:Int)] 32 (0,0)) g):=xhd (HD.out.boxed ((Turned.refl [] wr).alloc _) (heap_alloc_new wr (.cells #[.int .u8 dk, .int .i64 d1, .int .i64 d2, .int .u64 (S:Int)] 32)) (Nat.le_refl _))
   have l1:(i:Int) < n:=by omega
   have HLT:Hid (i < n):=xhd hlt
   have PC:=xhd (lb_charge H1.out HC.out.1 (by omega) d1 hw1)
   have HC2:Hid (LgOk (g.charge d1) ((i+1:Nat):Int)∧(g.charge d1).l.length=nw∧∀k:Nat,vAt (g.charge d1).l k≤720720*((i+1:Nat):Int)):=xhd
    ⟨(HC.out.1.charge d1).later (by omega),by rw [charge_len];exact HC.out.2.1,fun k=>by have:=v_grows HC.out.1 d1 k (HC.out.2.2 k);omega⟩
   clear HD hlt HC
   go_wp2_with fail
   clear z1 z2 z3 z4
   with_reducible refine PC.out.mono ?_
   rintro e W ⟨rfl,h2⟩
   have H2:=xhd h2.on
   clear h2 PC H1
   go_wp2
   go_roundw
   case rel=>exact⟨i+1,_,by have:=HLT.out;omega,by go_num,H2,HC2⟩
   case measure=>have:=HLT.out;simp [intOf];omega
  ·obtain rfl:i=n:=by omega
   have hvq:=HC.out.2.2 q
   have HV0:Hid (vAt g.l q≤28828800):=xhd (by omega)
   have HOK:Hid (LgOk g 40):=xhd (HC.out.1.later (by omega))
   have HLN:=xhd HC.out.2.1
   have hS:(2 ^ nw - 1:Nat) < 18446744073709551616:=by
    have:2 ^ nw≤2 ^ 4:=Nat.pow_le_pow_right (by omega) (by omega)
    omega
   have hS':(2 ^ nw - 1 - 2 ^ q:Nat) < 18446744073709551616:=Nat.lt_of_le_of_lt (Nat.sub_le _ _) hS
   have PB:=xhd (rb_behind HD.out HOK.out (by omega) q (2 ^ nw - 1) HPJ.out hS wr (Turned.refl [] wr))
   have hbr:=behind_range HOK.out (p:=q) (2 ^ nw - 1) HV0.out
   obtain⟨n0,hn0⟩:∃n0:Nat,g.behind q (2 ^ nw - 1)=n0:=⟨(g.behind q (2 ^ nw - 1)).toNat,by omega⟩
   rw [hn0] at PB hbr
   have HI:Hid (BhI nw q n0 g 0):=xhd ⟨HOK.out.later (by omega),HLN.out,HV0.out,by rw [hn0];omega⟩
   obtain⟨SA,hSA⟩:∃s:Nat,2 ^ nw - 1=s:=⟨_,rfl⟩
   obtain⟨SB,hSB⟩:∃s:Nat,2 ^ nw - 1 - 2 ^ q=s:=⟨_,rfl⟩
   rw [hSA] at PB hS
   rw [hSB] at hS'
   have HSA:=xhd hSA
   have HSB:=xhd hSB
   have ha:=all_word (nw:=nw) (q:=q) HNW.out.1 HNW.out.2
   rw [hSB,hSA] at ha
   obtain⟨e1,e2⟩:=ha
   clear hvq hSA hSB HC hn0 HV0 HOK HLN
   go_wp2_with fail
   with_reducible refine PB.out.mono ?_
   rintro e W0 ⟨rfl,tw⟩
   have H0:=xhd (HD.out.later tw)
   clear tw PB HD
   go_wp2_with fail
   go_loopw [61] (fun rv V=>∃(r:Nat) (g:Lg),r≤n0∧rv= .int .i64 r∧Hid (LgOn C w V b g)∧Hid (BhI nw q n0 g r)) (fun rv _=>n0 - (intOf rv).toNat)
   case atStart=>exact⟨0,g,Nat.zero_le _,rfl,H0,HI⟩
   case round=>
    clear H0 HI
    obtain⟨r,g,hr,rfl,HD,HI⟩:=hrel
    have PM:=xhd (rb_least HD.out HI.out.ok (by omega) SB hS' wr (Turned.refl [] wr))
    have PV:=xhd (fun p hp=>rb_vv HD.out HI.out.ok (by omega) p hp)
    by_cases hlt:r < n0
    ·have HLT:=xhd hlt
     obtain⟨j,h1,h2,h3,h5⟩:=HI.out.step HNW.out.1 HNW.out.2 (by omega)
     rw [HSB.out] at h1
     rw [h1] at PM
     have hjl:(j:Int) < g.l.length:=by
      obtain⟨k,hk,hkl⟩:=isP_nat h3
      omega
     have hl8:=HI.out.ok.len
     have hjj:isJ (j:Int):=by unfold isJ;omega
     have PV1:=xhd (PV.out j hjj)
     have PV2:=xhd (PV.out q HPJ.out)
     have PC:=xhd (fun V (t:Turned [] wr V)=>on_charge (HD.out.later t) HI.out.ok (by omega) j hjj)
     rw [h3] at PC
     have HI2:=xhd h5
     have l1:(r:Int) < n0:=by omega
     generalize vAt g.l j=vj at h2 PV1
     generalize vAt g.l q=vq at h2 PV2
     have hvv:¬vq≤vj:=by omega
     clear h1 h3 h5 hjj hjl hl8 PV HI HD hlt h2
     go_wp2_with fail
     with_reducible refine PM.out.mono ?_
     rintro e u1 ⟨rfl,t1⟩
     have T1:=xhd t1
     clear t1 PM
     go_wp2_with fail
     with_reducible refine (PV1.out _ T1.out).mono ?_
     rintro e u2 ⟨rfl,t2⟩
     have T2:=xhd t2
     clear t2 T1 PV1
     go_wp2_with fail
     with_reducible refine (PV2.out _ T2.out).mono ?_
     rintro e u3 ⟨rfl,t3⟩
     have T3:=xhd t3
     clear t3 T2 PV2
     go_wp2_with fail
     with_reducible refine (PC.out _ T3.out).mono ?_
     rintro e u4 ⟨rfl,t4⟩
     have H4:=xhd t4
     clear t4 T3 PC
     go_wp2
     go_roundw
     case rel=>exact⟨r+1,_,by have:=HLT.out;omega,by go_num,H4,HI2⟩
     case measure=>have:=HLT.out;simp [intOf];omega
    ·obtain rfl:r=n0:=by omega
     have PB2:=xhd (rb_behind HD.out HI.out.ok (by omega) q SA HPJ.out hS wr (Turned.refl [] wr))
     have hb0:g.behind q SA=0:=by
      have:=HI.out.bh
      rw [HSA.out] at this
      omega
     rw [hb0] at PB2
     have HT:=xhd HD.out.t
     by_cases hn1:nw=1
     ·have hn1z:(nw:Int)=1:=by omega
      clear hb0 PM PV
      go_wp2_with fail
      with_reducible refine PB2.out.mono ?_
      rintro e u1 ⟨rfl,t1⟩
      have T1:=xhd (HT.out.also18 t1)
      clear t1 PB2
      go_wp2
      go_ret
      exact⟨by simp,T1.out⟩
     ·have hn1z:¬(nw:Int)=1:=by omega
      have hv:=behind_end HI.out.ok (p:=q) (by rw [HI.out.len];exact HNW.out.2) (S:=SA) (S':=SB) (fun i hi=>HSA.out ▸ (all_has HNW.out.1 HNW.out.2).1 i (HI.out.len ▸ hi)) (fun i hi=>HSB.out ▸ (all_has HNW.out.1 HNW.out.2).2 i (HI.out.len ▸ hi)) hb0 (by rw [HI.out.len];exact hn1)
      have PM:=xhd (fun V (t:Turned [] wr V)=>rb_least HD.out HI.out.ok (by omega) SB hS' V t)
      have hlj:=least_isJ HI.out.ok SB
      have PV1:=xhd (PV.out (g.least SB) hlj)
      have PV2:=xhd (PV.out q HPJ.out)
      generalize vAt g.l (g.least SB)=vj at hv PV1
      generalize g.least SB=lj at PM PV1
      generalize vAt g.l q=vq at hv PV2
      clear hb0 PV hlj HD HI
      go_wp2_with fail
      with_reducible refine PB2.out.mono ?_
      rintro e u1 ⟨rfl,t1⟩
      have T1:=xhd t1
      clear t1 PB2
      go_wp2_with fail
      with_reducible refine (PM.out _ T1.out).mono ?_
      rintro e u2 ⟨rfl,t2⟩
      have T2:=xhd t2
      clear t2 T1 PM
      go_wp2_with fail
      with_reducible refine (PV1.out _ T2.out).mono ?_
      rintro e u3 ⟨rfl,t3⟩
      have T3:=xhd t3
      clear t3 T2 PV1
      go_wp2_with fail
      with_reducible refine (PV2.out _ T3.out).mono ?_
      rintro e u4 ⟨rfl,t4⟩
      have T4:=xhd (HT.out.also18 t4)
      clear t4 T3 PV2
      go_wp2
      go_ret
      exact⟨by simp,T4.out⟩
end Go.Proofs.YtcgjbllmoglhfaaDoor
