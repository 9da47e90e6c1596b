/-
  The program's cores: Loads, and what they tell of the greatest and of the least.
  The program's cores: extremes, Balance.
  All that is to be said of the program's cores, for the laws of stage 17.
-/
import Derived.Test.YtfmciiffcmfagaaGreatZAX
import Derived.OwnWalk
import Derived.BigQuiet
import Derived.Deep.RegionHeld3
import Derived.Test.YtfmciiffcmfagaaGreatZAl
set_option maxRecDepth 100000
set_option maxHeartbeats 25600000
namespace Go.Proofs.YtfmciiffcmfagaaGreat
open Go.RowKit
theorem cpInfoInt:(Tryz.prog.info? 3).map (fun i=>(i.zero,i.size,i.bytes))=some (some (.int .i64 0),1,8):=by kernel_rfl
def loadsTo (l:List Rq) (k:Nat):List Value:=(l.take k).map fun q=> .int .i64 (loadQ q)
theorem loadsTo_succ {l:List Rq} {k:Nat} {q:Rq} (h:l[k]?=some q):loadsTo l (k+1)=loadsTo l k++[.int .i64 (loadQ q)]:=by
 unfold loadsTo
 rw [List.take_add_one,h,List.map_append]
 rfl
theorem cp_one_cell (W:World) (v:Value) (t:TypeId):(W.alloc (Obj.cells #[v] t)).cell? ⟨W.heap.size,0,none⟩=some v:=by simp
section
variable {w w':World} {b d:Nat} {X X0 Y:List Nat} {T:List Tq} {l:List Rq} {q:Rq} {c:Int}
theorem rp_load (h:RpAt w b X q) (hq:QOk q c):Calls Tryz.prog 61 #[.pointer (some ⟨b,0,none⟩)] w fun e w'=>e= .returned (.int .i64 (loadQ q))∧Turned [] w w':=by
 obtain⟨bt,br,T,R,B,r,rfl,h⟩:=h
 exact rpLoad h hq
structure LdI (w V:World) (v:Value) (n:Nat) (xs:List Value):Prop where
 row:V.ownsRow w.heap.size 3 1 v n xs
 t:Turned [] w V
theorem LdI.later {w V V':World} {v:Value} {n:Nat} {xs:List Value} (h:LdI w V v n xs) (t:Turned [] V V'):LdI w V' v n xs:=
 ⟨ownsRow_same h.row (fun k _ hl=>t.block k hl (by simp)),h.t.join t⟩
theorem cploads (h:CpI w b X0 T l) (hc:COk l c):Calls Tryz.prog 28 #[.pointer (some ⟨b,0,none⟩)] w fun e w'=>∃v,e= .returned v∧LdI w w' v l.length (loadsTo l l.length):=by
 obtain⟨i0,hi0,hz0,hz1,hz2⟩:=info_parts cpInfoInt
 have HL:=xhd (cplen h)
 have HV:=xhd (fun V (t:Turned [] w V)=>(h.keep0 t).view)
 have HOK:=xhd hc.ok
 have hlen:l.length≤4:=hc.len.2
 obtain⟨n,hn⟩:∃n,l.length=n:=⟨_,rfl⟩
 have HN:=xhd hn
 rw [hn] at HL hlen HV ⊢
 clear h hn hc
 go_enter Tryz.func28,Tryz.ntmps28
 go_wp2_with fail
 with_reducible refine HL.out.mono ?_
 rintro e w1 ⟨rfl,rfl⟩
 clear HL
 go_wp2
 go_loopw [3,7] (fun o iv V=>∃k:Nat,k≤n∧iv= .int .i64 k∧Hid (LdI w V o k (loadsTo l k))) (fun _ iv _=>n - (intOf iv).toNat)
 case atStart=>exact⟨0,Nat.zero_le _,rfl,xhd ⟨World.ownsRow_nil _ _ _ _,Turned.refl _ _⟩⟩
 case round=>
  obtain⟨k,hk,rfl,HI⟩:=hrel
  by_cases hlt:k < n
  ·have hq:l[k]?=some (l[k]'(by have:=HN.out;omega)):=List.getElem?_eq_getElem _
   obtain⟨q,hqq⟩:∃q,l[k]'(by have:=HN.out;omega)=q:=⟨_,rfl⟩
   rw [hqq] at hq
   obtain⟨a,cap,c0,_,hr⟩:=HV.out _ HI.out.t
   obtain⟨g,d,Y,rfl,_,cp,hat⟩:=hr k q hq
   have HAT:=xhd (rp_load hat (HOK.out q (mem_at hq)))
   have HLT:=xhd hlt
   have HS:=xhd (loadsTo_succ hq)
   have i1:(0:Int)≤k:=by omega
   have i2:(k:Int) < n:=by omega
   obtain⟨y,hy⟩:∃y,loadQ q=y:=⟨_,rfl⟩
   rw [hy] at HAT HS
   clear hq hqq hat hr hlt hy
   go_wp2_with fail
   with_reducible refine HAT.out.mono ?_
   rintro e w2 ⟨rfl,t2⟩
   have HI2:=xhd (HI.out.later t2)
   clear t2 c0 cp
   go_wp2_with (at_builtin;refine wpList_append_own _ rfl _ _ 58 rfl w.heap.size 3 i0 (.int .i64 0) 1 8 Tryz.underlying58 hi0 hz0 hz1 hz2 rfl (by decide) _ _ _ rfl (HI2.out.row.alloc _) ⟨w2.heap.size,0,none⟩ 1 1 [.int .i64 y] rfl rfl ?c1 ?c2 ?c3 ?c4 ?c5 ?_)
   case c1=>
    intro j u hj
    match j,hj with
    |0,hj=>simp at hj;subst hj;exact cp_one_cell w2 _ _
   case c2=>intro u hu;simp at hu;subst hu;rfl
   case c3=>unfold maxLen;omega
   case c4=>omega
   case c5=>have:=HI2.out.t.size;simp;omega
   intro v' w3 hown3 hgrow _
   have HF:Hid (LdI w w3 v' (k+1) (loadsTo l (k+1))):=xhd ⟨by rw [HS.out];exact hown3,Turned.grown (HI2.out.t.alloc _) hgrow fun j hj=> .inr (HI2.out.row.lt j (by simpa using hj)).1⟩
   clear hown3 hgrow
   go_wp2
   go_roundw
   case rel=>exact⟨k+1,by have:=HLT.out;omega,by go_num,HF⟩
   case measure=>have:=HLT.out;simp [intOf];omega
  ·have hk':k=n:=by omega
   subst hk'
   go_wp2
   go_ret
   exact⟨_,rfl,HI.out⟩
theorem LdI.view {w V:World} {v:Value} (h:LdI w V v l.length (loadsTo l l.length)) (hl:1≤l.length):∃g cap,v= .slice (some ⟨g,0,none⟩) l.length cap∧w.heap.size≤g∧l.length≤cap∧cap≤maxLen∧∀i q,l[i]?=some q→V.cell? ⟨g,i,none⟩=some (.int .i64 (loadQ q)):=by
 obtain⟨g,cap,rfl,hc',hm'⟩:=ownsRow_pos h.row (by omega)
 have h0:V.ownsRow 0 3 1 (.slice (some ⟨g,0,none⟩) l.length cap) l.length (cellsOf (fun q:Rq=>[Value.int .i64 (loadQ q)]) l):=by
  have e:cellsOf (fun q:Rq=>[Value.int .i64 (loadQ q)]) l=loadsTo l l.length:=by
   unfold loadsTo
   rw [List.take_length]
   clear h hl hc' hm'
   induction l with
   |nil=>rfl
   |cons x t ih=>simpa [cellsOf] using ih
  rw [e]
  exact⟨h.row.1,h.row.2.imp_right fun ⟨g',cap',cur,hv,_,rest⟩=>⟨g',cap',cur,hv,Nat.zero_le _,rest⟩⟩
 refine⟨g,cap,rfl,(h.row.lt g (by simp [Value.ownBlock])).1,hc',hm',fun i q hq=>?_⟩
 have hi:i < l.length:=(List.getElem?_eq_some_iff.1 hq).1
 have r:=(row_cells (k:=1) (fun _=>rfl) h0 (j:=i) hi 0 (by decide)).1
 rw [(List.getElem?_eq_some_iff.1 hq).2] at r
 simpa using r
end
end Go.Proofs.YtfmciiffcmfagaaGreat
namespace Go.Proofs.YtfmciiffcmfagaaGreat
open Go.RowKit
theorem results_tmp4 {fn:Func} {t u v x:Tmp} (h:fn.results= #[.tmp t, .tmp u, .tmp v, .tmp x]) (tmps:Array Value) (P:Program) (w:World):
  (results fn tmps).run P w= .ok (.tuple #[tmps.getD t undef,tmps.getD u undef,tmps.getD v undef,tmps.getD x undef]) w:=by
 simp [results,h]
section
variable {w w':World} {b d:Nat} {X X0 Y:List Nat} {T:List Tq} {l:List Rq} {q:Rq} {c:Int}
theorem cpextremes {w:World} {l:List Rq} {g n cap:Nat} (h1:1≤n) (h4:n≤4) (hcell:∀i,i < n→w.cell? ⟨g,i,none⟩=some (.int .i64 (loadAt l i))) (hr:∀i,0≤loadAt l i∧loadAt l i≤65536):
  Calls Tryz.prog 44 #[.slice (some ⟨g,0,none⟩) n cap] w fun e w'=>e= .returned (.tuple #[.int .i64 (mostTo l n:Nat), .int .i64 (leastTo l n:Nat), .int .i64 (loadAt l (mostTo l n) - loadAt l (leastTo l n))])∧Turned [] w w':=by
 have HC:=xhd hcell
 have HR:=xhd hr
 clear hcell hr
 go_enter Tryz.func44,Tryz.ntmps44
 go_wp2
 go_loop [5,6,11] (fun mo le iv=>∃k:Nat,k≤n∧iv= .int .i64 k∧mo= .int .i64 (mostTo l k:Nat)∧le= .int .i64 (leastTo l k:Nat)∧Hid (mostTo l k < n∧leastTo l k < n)) (fun _ _ iv=>n - (intOf iv).toNat)
 case atStart=>exact⟨0,Nat.zero_le _,rfl,rfl,rfl,xhd ⟨by simp [mostTo];omega,by simp [leastTo];omega⟩⟩
 case round=>
  obtain⟨k,hk,rfl,rfl,rfl,HML⟩:=hrel
  by_cases hlt:k < n
  ·have em:=mostTo_succ l k
   have el:=leastTo_succ l k
   obtain⟨hm0,hl0⟩:=HML.out
   have p1:=HC.out k hlt
   have p2:=HC.out _ hm0
   have p3:=HC.out _ hl0
   have HEM:=xhd em
   have HEL:=xhd el
   have HLT:=xhd hlt
   have i0:(0:Int)≤k:=by omega
   have i1:(k:Int) < n:=by omega
   have i2:(0:Int)≤(mostTo l k:Nat):=by omega
   have i3:((mostTo l k:Nat):Int) < n:=by omega
   have i4:(0:Int)≤(leastTo l k:Nat):=by omega
   have i5:((leastTo l k:Nat):Int) < n:=by omega
   clear hm0 hl0 em el
   generalize mostTo l k=m at i2 i3 p2 HEM HML ⊢
   generalize leastTo l k=s at i4 i5 p3 HEL HML ⊢
   generalize loadAt l k=la at p1 HEM HEL
   generalize loadAt l m=lm at p2 HEM
   generalize loadAt l s=ls at p3 HEL
   clear hk hlt
   cases a1:decide (lm < la) with
   |true=>
    cases a2:decide (la < ls) with
    |true=>
     go_wp2
     go_round
     case rel=>exact⟨k+1,HLT.out,by go_num,by rw [HEM.out];rw [if_pos (of_decide_eq_true a1)],by rw [HEL.out];rw [if_pos (of_decide_eq_true a2)],xhd ⟨by rw [HEM.out];rw [if_pos (of_decide_eq_true a1)];exact HLT.out,by rw [HEL.out];rw [if_pos (of_decide_eq_true a2)];exact HLT.out⟩⟩
     case measure=>have:=HLT.out;simp [intOf];omega
    |false=>
     go_wp2
     go_round
     case rel=>exact⟨k+1,HLT.out,by go_num,by rw [HEM.out];rw [if_pos (of_decide_eq_true a1)],by rw [HEL.out];rw [if_neg (of_decide_eq_false a2)],xhd ⟨by rw [HEM.out];rw [if_pos (of_decide_eq_true a1)];exact HLT.out,by rw [HEL.out];rw [if_neg (of_decide_eq_false a2)];exact HML.out.2⟩⟩
     case measure=>have:=HLT.out;simp [intOf];omega
   |false=>
    cases a2:decide (la < ls) with
    |true=>
     go_wp2
     go_round
     case rel=>exact⟨k+1,HLT.out,by go_num,by rw [HEM.out];rw [if_neg (of_decide_eq_false a1)],by rw [HEL.out];rw [if_pos (of_decide_eq_true a2)],xhd ⟨by rw [HEM.out];rw [if_neg (of_decide_eq_false a1)];exact HML.out.1,by rw [HEL.out];rw [if_pos (of_decide_eq_true a2)];exact HLT.out⟩⟩
     case measure=>have:=HLT.out;simp [intOf];omega
    |false=>
     go_wp2
     go_round
     case rel=>exact⟨k+1,HLT.out,by go_num,by rw [HEM.out];rw [if_neg (of_decide_eq_false a1)],by rw [HEL.out];rw [if_neg (of_decide_eq_false a2)],xhd ⟨by rw [HEM.out];rw [if_neg (of_decide_eq_false a1)];exact HML.out.1,by rw [HEL.out];rw [if_neg (of_decide_eq_false a2)];exact HML.out.2⟩⟩
     case measure=>have:=HLT.out;simp [intOf];omega
  ·have hkn:k=n:=by omega
   subst hkn
   obtain⟨hm0,hl0⟩:=HML.out
   have p2:=HC.out _ hm0
   have p3:=HC.out _ hl0
   have i2:(0:Int)≤(mostTo l k:Nat):=by omega
   have i3:((mostTo l k:Nat):Int) < k:=by omega
   have i4:(0:Int)≤(leastTo l k:Nat):=by omega
   have i5:((leastTo l k:Nat):Int) < k:=by omega
   have hma:=HR.out (mostTo l k)
   have hla:=HR.out (leastTo l k)
   have hwrap:IntKind.i64.wrap (loadAt l (mostTo l k) - loadAt l (leastTo l k))=loadAt l (mostTo l k) - loadAt l (leastTo l k):=by rw [IntKind.wrap_i64];omega
   clear HML hm0 hl0 hma hla hk hlt HR HC
   generalize hA:loadAt l (mostTo l k)=lm at p2 hwrap
   generalize hB:loadAt l (leastTo l k)=ls at p3 hwrap
   have HA:=xhd hA
   have HB:=xhd hB
   clear hA hB
   generalize hM:mostTo l k=m at i2 i3 p2
   generalize hS:leastTo l k=s at i4 i5 p3
   have HM:=xhd hM
   have HS:=xhd hS
   clear hM hS
   go_wp2_with fail
   go_quiet (fail)
   go_wp2
   go_ret3
   rw [HA.out,HB.out,HM.out,HS.out]
   exact⟨rfl,(Turned.refl _ _).drewN _⟩
theorem bal_lit {l:List Rq} {k t:Nat} {q:Rq} (hq:l[k]?=some q) (hk:k=mostTo l l.length) (ht:t=leastTo l l.length):
  (litQ q (loadAt l k - loadAt l t)= -1∧balC l=none)∨∃id,litQ q (loadAt l k - loadAt l t)=id∧balC l=some (id,k,t):=by
 unfold balC litQ
 rw [←hk, ←ht,readyAt_some hq]
 cases (sortQ q.ready).find? (fun x=>decide (x.2.2 < loadAt l k - loadAt l t)) with
 |none=>exact .inl ⟨rfl,rfl⟩
 |some x=>exact .inr ⟨x.1,rfl,rfl⟩
theorem cpbalance (h:CpI w b X0 T l) (hc:COk l c):
  Calls Tryz.prog 13 #[.pointer (some ⟨b,0,none⟩)] w fun e w'=>e= .returned (.tuple #[.int .i64 (balV l).1, .int .i64 (balV l).2.1, .int .i64 (balV l).2.2, .bool (balC l).isSome])∧∃T',CpI w' b X0 T' (balanceC l)∧Turned (blk X0 T) w w'∧Newer (blk X0 T) w.heap.size (blk X0 T'):=by
 have hlen:=hc.len
 have hmo:=most_lt (l:=l) (by omega)
 have hle:=least_lt (l:=l) (by omega)
 have hqm:l[mostTo l l.length]?=some (l[mostTo l l.length]'hmo):=List.getElem?_eq_getElem hmo
 have hql:l[leastTo l l.length]?=some (l[leastTo l l.length]'hle):=List.getElem?_eq_getElem hle
 obtain⟨q,hq⟩:∃q,l[mostTo l l.length]'hmo=q:=⟨_,rfl⟩
 obtain⟨r,hr⟩:∃r,l[leastTo l l.length]'hle=r:=⟨_,rfl⟩
 rw [hq] at hqm
 rw [hr] at hql
 obtain⟨d1,Y1,hT1⟩:=cp_row h hqm
 obtain⟨d2,Y2,hT2⟩:=cp_row h hql
 have HL:=xhd (cplen h)
 have HLD:=xhd (cploads h hc)
 have HEX:Hid (∀V v,LdI w V v l.length (loadsTo l l.length)→∃g cap,v= .slice (some ⟨g,0,none⟩) l.length cap∧Calls Tryz.prog 44 #[.slice (some ⟨g,0,none⟩) l.length cap] V fun e w'=>e= .returned (.tuple #[.int .i64 (mostTo l l.length:Nat), .int .i64 (leastTo l l.length:Nat), .int .i64 (loadAt l (mostTo l l.length) - loadAt l (leastTo l l.length))])∧Turned [] V w'):=xhd fun V v hv=>by
  obtain⟨g,cap,hg,_,_,_,hcl⟩:=hv.view hlen.1
  exact⟨g,cap,hg,cpextremes hlen.1 hlen.2 (fun i hi=>by
   have hqi:l[i]?=some l[i]:=List.getElem?_eq_getElem hi
   rw [loadAt_some hqi]
   exact hcl i _ hqi) (loadAt_range hc)⟩
 have HV:Hid (∀V,Turned [] w V→∃g cap,b ∈ X0∧g ∈ X0∧V.cell? ⟨b,0,none⟩=some (.slice (some ⟨g,0,none⟩) l.length cap)∧V.cell? ⟨g,mostTo l l.length,none⟩=some (.pointer (some ⟨d1,0,none⟩))∧V.cell? ⟨g,leastTo l l.length,none⟩=some (.pointer (some ⟨d2,0,none⟩))):=xhd fun V tV=>by
  obtain⟨a,cap,c0,_,hv⟩:=(h.keep0 tV).view
  obtain⟨g,d1',Y1',rfl,e1,cp1,_⟩:=hv _ q hqm
  obtain⟨g',d2',Y2',hg,e2,cp2,_⟩:=hv _ r hql
  cases hg
  rw [hT1] at e1
  cases e1
  rw [hT2] at e2
  cases e2
  obtain⟨m1,m2⟩:=(h.keep0 tV).own_at c0
  exact⟨g,cap,m1,m2,c0,cp1,cp2⟩
 have HLG:=xhd (fun V (tV:Turned [] w V)=>cplighter ((h.keep0 tV).qs.at_ _ _ q hT1 hqm) (hc.ok q (mem_at hqm)) (loadAt l (mostTo l l.length) - loadAt l (leastTo l l.length)))
 have hbl:=bal_lit hqm rfl rfl
 have HNO:Hid (balC l=none→∀W,Turned [] w W→balV l=(-1, -1, -1)∧(balC l).isSome=false∧∃T',CpI W b X0 T' (balanceC l)∧Turned (blk X0 T) w W∧Newer (blk X0 T) w.heap.size (blk X0 T')):=xhd fun hb W tW=>by
  unfold balV balanceC
  rw [hb]
  exact⟨rfl,rfl,T,h.keep0 tW,tW.mono (fun k hk=>by simp at hk),Newer.refl _ _⟩
 have HGO:Hid (∀id,balC l=some (id,mostTo l l.length,leastTo l l.length)→0≤id∧balV l=(id,((mostTo l l.length:Nat):Int),((leastTo l l.length:Nat):Int))∧(balC l).isSome=true∧∀W,Turned [] w W→Calls Tryz.prog 42 #[.int .i64 id, .pointer (some ⟨d1,0,none⟩), .pointer (some ⟨d2,0,none⟩)] W fun e w'=>e= .returned (.int .i64 0)∧SameAt X0 W w'∧∃T',CpI w' b X0 T' (balanceC l)∧Turned (blk X0 T) w w'∧Newer (blk X0 T) w.heap.size (blk X0 T')):=xhd fun id hb=>by
  obtain⟨q',x,hq',hx,ht,_,_,_,_,hkt,_⟩:=balC_some hc hb
  rw [hqm] at hq'
  cases hq'
  have hf:(findQ q.l id).isSome=true:=by rw [hx];rfl
  have hid:0≤id:=(hc.ok q (mem_at hqm)).ids _ (findQ_mem hx)
  refine⟨hid,by unfold balV;rw [hb],by rw [hb];rfl,fun W tW=>?_⟩
  have e:balanceC l=goC l id (mostTo l l.length) (leastTo l l.length):=by
   unfold balanceC
   rw [hb]
  rw [e]
  refine (cpcarry (h.keep0 tW) hc hqm hf ht hkt hT1 hT2).mono ?_
  rintro e w' ⟨he,hs,T',h1,h2,h3⟩
  exact⟨he,hs,T',h1,(tW.mono (fun k hk=>by simp at hk)).trans h2 (Newer.refl _ _),fun k hk=>(h3 k hk).imp_right (Nat.le_trans tW.size)⟩
 obtain⟨n,hn⟩:∃n,l.length=n:=⟨_,rfl⟩
 rw [hn] at HL HLD HEX HV HLG hbl HGO hlen hmo hle
 have hn1:0 < (n:Int):=by omega
 have i2:(0:Int)≤(mostTo l n:Nat):=by omega
 have i3:((mostTo l n:Nat):Int) < n:=by omega
 have i4:(0:Int)≤(leastTo l n:Nat):=by omega
 have i5:((leastTo l n:Nat):Int) < n:=by omega
 obtain⟨dd,hdd⟩:∃dd,loadAt l (mostTo l n) - loadAt l (leastTo l n)=dd:=⟨_,rfl⟩
 rw [hdd] at HEX HLG hbl
 clear h hc hqm hql hq hr hT1 hT2 hlen hmo hle hn hdd
 generalize mostTo l n=mo at HEX HV HGO hbl i2 i3
 generalize leastTo l n=le at HEX HV HGO hbl i4 i5
 have HBL:=xhd hbl
 clear hbl
 go_enter Tryz.func13,Tryz.ntmps13
 go_wp2_with fail
 with_reducible refine HL.out.mono ?_
 rintro e w1 ⟨rfl,rfl⟩
 go_wp2_with fail
 with_reducible refine HLD.out.mono ?_
 rintro e w2 ⟨v,rfl,hv⟩
 obtain⟨g1,cap1,rfl,hex⟩:=HEX.out _ _ hv
 have T2:=xhd hv.t
 have HX:=xhd hex
 clear hv hex
 go_wp2_with fail
 with_reducible refine HX.out.mono ?_
 rintro e w3 ⟨rfl,t3⟩
 have T3:=xhd (T2.out.join t3)
 clear t3
 obtain⟨g,cap,m1,m2,c0,cp1,cp2⟩:=HV.out _ T3.out
 have HM:=xhd (And.intro m1 m2)
 clear m1 m2
 go_wp2_with fail
 with_reducible refine (HLG.out _ T3.out).mono ?_
 rintro e w4 ⟨rfl,t4⟩
 have T4:=xhd (T3.out.join t4)
 have C4:=xhd (And.intro (t4.cell0 c0) (And.intro (t4.cell0 cp1) (t4.cell0 cp2)))
 clear t4 c0 cp1 cp2
 rcases HBL.out with⟨hl,hb⟩ |⟨id,hl,hb⟩
 ·rw [hl]
  have HN:=xhd (HNO.out hb)
  clear hl hb
  obtain⟨c0,cp1,cp2⟩:=C4.out
  go_wp2_with fail
  go_quiet (fail)
  have HE:=xhd (HN.out _ (T4.out.drewN nq))
  clear c0 cp1 cp2
  go_wp2
  (try simp only [Exit.inBlock,Exit.then])
  refine bodyPost_ret (results_tmp4 rfl _ _ _) rfl ?_
  rw [HE.out.1,HE.out.2.1]
  exact⟨rfl,HE.out.2.2⟩
 ·rw [hl]
  obtain⟨h0,e1,e2,hca⟩:=HGO.out id hb
  have HB1:=xhd e1
  have HB2:=xhd e2
  have HCA:=xhd (hca w4.drew T4.out.drew)
  have hne:(id != -1)=true:=by simp;omega
  have HSM:Hid (∀V,SameAt X0 w4.drew V→V.cell? ⟨b,0,none⟩=some (.slice (some ⟨g,0,none⟩) n cap)∧V.cell? ⟨g,mo,none⟩=some (.pointer (some ⟨d1,0,none⟩))∧V.cell? ⟨g,le,none⟩=some (.pointer (some ⟨d2,0,none⟩))):=xhd fun V s=>by
   obtain⟨c0,cp1,cp2⟩:=C4.out
   exact⟨cell_same (A:=w4.drew) s HM.out.1 c0,cell_same (A:=w4.drew) s HM.out.2 cp1,cell_same (A:=w4.drew) s HM.out.2 cp2⟩
  clear e1 e2 hca hl hb h0
  obtain⟨f0,f1,f2⟩:=HSM.out _ (SameAt.refl _ _)
  go_wp2_with fail
  go_region_held3 (fun V=>V.cell? ⟨b,0,none⟩=some (.slice (some ⟨g,0,none⟩) n cap)∧V.cell? ⟨g,mo,none⟩=some (.pointer (some ⟨d1,0,none⟩))∧V.cell? ⟨g,le,none⟩=some (.pointer (some ⟨d2,0,none⟩)))
   (first|exact⟨j0,j1,j2⟩ |exact⟨f0,f1,f2⟩)
   (first
     |(go_at_call 42
       with_reducible refine HCA.out.mono ?_
       rintro e V ⟨rfl,hs,hh⟩
       have HH:=xhd hh
       obtain⟨j0,j1,j2⟩:=HSM.out _ hs
       clear hs hh)
     |fail)
  all_goals
   have HH2:=xhd HH.out
   clear j0 j1 j2 f0 f1 f2
   go_wp2
   (try simp only [Exit.inBlock,Exit.then])
   refine bodyPost_ret (results_tmp4 rfl _ _ _) rfl ?_
   rw [HB1.out,HB2.out]
   exact⟨rfl,HH2.out⟩
end
end Go.Proofs.YtfmciiffcmfagaaGreat
namespace Go.Proofs.YtfmciiffcmfagaaGreat
open Go.RowKit
def coSaid:CoSaid rpSaid where
 Own:=CpOwn
 offC:=nd_off (by decide)
 offP:=nd_off (by decide)
 keep:=fun h t hd _=>LAt.keep h t hd
 same:=by
  intro w b X0 T T' l l' h _ hm
  have h0:LAt tCp tPp 1 encP (fun v=> #[v]) w b X0 (T.map (·.1)):=h
  show LAt tCp tPp 1 encP (fun v=> #[v]) w b X0 (T'.map (·.1))
  rw [hm]
  exact h0
 own:=fun h=>cpown_types h
 new:=fun n g w _ _=>cpnew n g w
 add:=fun core id v wt h hc _ _ _ _ hv=>(cpadd h hc core id v wt hv).mono fun _ _ ⟨e,T',h1,h2,h3⟩=>⟨e,_,T',h1,h2,h3⟩
 remove:=fun id h hc _ _=>(cpremove h hc id).mono fun _ _ ⟨e,T',h1,h2,h3⟩=>⟨e,_,T',h1,h2,h3⟩
 move:=fun id core h hc _ _ _=>(cpmove h hc id core).mono fun _ _ ⟨e,T',h1,h2,h3⟩=>⟨e,_,T',h1,h2,h3⟩
 bal:=fun h hc _=>(cpbalance h hc).mono fun _ _ ⟨e,T',h1,h2,h3⟩=>⟨e,_,T',h1,h2,h3⟩
 weigh:=fun id wt h hc _ _ _=>(cpweigh h hc id wt).mono fun _ _ ⟨e,T',h1,h2,h3⟩=>⟨e,_,T',h1,h2,h3⟩
 settle:=fun h hc _=>(cpsettle h hc).mono fun _ _ ⟨e,T',h1,h2,h3⟩=>⟨e,_,T',h1,h2,h3⟩
 of:=fun id h _ _ _=>cpof h id
 len:=fun h _ _=>(cplen h).mono fun _ _ ⟨e,hw⟩=>⟨e,hw ▸ Turned.refl _ _⟩
 loads:=fun h hc _=>(cploads h hc).mono fun _ _ ⟨v,e,hv⟩=>by
  obtain⟨g,cap,rfl,h1,h2,h3,h4⟩:=hv.view hc.len.1
  exact⟨g,cap,e,hv.t,h1,h2,h3,h4⟩
 queue:=fun core h _ _ _=>(cpqueue h core).mono fun _ _ ⟨e,hw⟩=>⟨e,hw ▸ Turned.refl _ _⟩
end Go.Proofs.YtfmciiffcmfagaaGreat
