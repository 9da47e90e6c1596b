/-
  The document's Balance, walked.
  The program's cores and the document's, side by side.
  Stage 17's deeds, opened to their cells.
  Layer 17's awake, given what is said of the program's cores.
  The document's New of cores. (Made by gen_conew.py.)
-/
import Derived.Test.YtfmciiffcmfagaaGreatZAG
import Derived.Test.YtfmciiffcmfagaaGreatZAF
import Derived.Test.YtfmciiffcmfagaaGreatZAB
import Derived.OwnWalk
import Derived.Maps.AppendAt
import Derived.Test.YtfmciiffcmfagaaGreatZAl
set_option maxRecDepth 100000
set_option maxHeartbeats 25600000
namespace Go.Proofs.YtfmciiffcmfagaaGreat
open Go.RowKit
theorem row_at {w:World} {base:Nat} {e:TypeId} {size g n cap m:Nat} {xs:List Value} (h:w.ownsRow base e size (.slice (some ⟨g,0,none⟩) n cap) m xs):base≤g:=by
 rcases h.2 with⟨h1,_⟩ |⟨g',cap',cur,h1,h2,_⟩
 ·cases h1
 ·cases h1
  exact h2
theorem Turned.cellX {X:List Nat} {a b:World} (t:Turned X a b) {p:Addr} {v:Value} (h:a.cell? p=some v) (hx:p.block ∉ X):b.cell? p=some v:=by
 have hl:=World.block_lt_of_cell? a p h
 unfold World.cell? at h ⊢
 rw [t.block _ hl hx]
 exact h
theorem rcbal_any {w:World} {b:Nat} {X0:List Nat} {T:List Tq} {l:List Rq} {c:Int} (h:R17 w b X0 T l) (hc:COk l c):
  Calls Tryz.prog 14 #[.pointer (some ⟨b,0,none⟩)] w fun e w'=>e= .returned (.tuple #[.int .i64 (balV l).1, .int .i64 (balV l).2.1, .int .i64 (balV l).2.2])∧∃T',R17 w' b X0 T' (balanceC l)∧Turned (blk X0 T) w w'∧Newer (blk X0 T) w.heap.size (blk X0 T'):=by
 have HRD:=xhd (h.reads hc)
 have HLR:=xhd (fun i=>loadAt_range hc i)
 have HBA:=xhd (fun i hi hlt hb=>bal_at (l:=l) (i:=i) hi hlt hb)
 have HBN:=xhd (fun hb=>bal_no (l:=l) hb)
 have hlen:=hc.len
 have hmo:=most_lt (l:=l) (by omega)
 have hle:=least_lt (l:=l) (by omega)
 have hrl:=readyAt_len hc (mostTo l l.length)
 have HNO:Hid (balC l=none→∀W,Turned [] w W→(balV l=(-1, -1, -1))∧∃T',R17 W b X0 T' (balanceC l)∧Turned (blk X0 T) w W∧Newer (blk X0 T) w.heap.size (blk X0 T')):=xhd fun hb W tW=>by
  unfold balV balanceC
  rw [hb]
  exact⟨rfl,T,h.keep tW (by simp),tW.mono (fun k hk=>by simp at hk),Newer.refl _ _⟩
 have HGO:Hid (∀id,balC l=some (id,mostTo l l.length,leastTo l l.length)→balV l=(id,((mostTo l l.length:Nat):Int),((leastTo l l.length:Nat):Int))∧∀W,Turned [] w W→Calls Tryz.prog 43 #[.pointer (some ⟨b,0,none⟩), .int .i64 id, .int .i64 (leastTo l l.length:Nat)] W fun e w'=>e= .returned (.tuple #[])∧Turned (blk X0 T) W w'∧∃T',R17 w' b X0 T' (balanceC l)∧Turned (blk X0 T) w w'∧Newer (blk X0 T) w.heap.size (blk X0 T')):=xhd fun id hb=>by
  refine⟨by unfold balV;rw [hb],fun W tW=>?_⟩
  obtain⟨q,x,hq,hx,ht,_,_,_,_,hkt,_⟩:=balC_some hc hb
  have hf:(findQ q.l id).isSome=true:=by rw [hx];rfl
  have ho:ofC l id=mostTo l l.length:=by
   unfold ofC
   rw [ofN_at hq hf fun j r hj hr=>by
    cases he:(findQ r.l id).isSome with
    |false=>rfl
    |true=>have:=hc.one _ _ _ _ id hq hr hf he;omega]
  have e:balanceC l=goC l id (mostTo l l.length) (leastTo l l.length):=by
   unfold balanceC
   rw [hb]
  rw [e]
  refine (rcmove_any (h.keep tW (by simp)) hc hq ho hf ht hkt).mono ?_
  rintro e w' ⟨he,T',h1,h2,h3⟩
  exact⟨he,h2,T',h1,(tW.mono (fun k hk=>by simp at hk)).trans h2 (Newer.refl _ _),fun k hk=>(h3 k hk).imp_right (Nat.le_trans tW.size)⟩
 have HOFF:Hid (∀k,w.heap.size≤k→k ∉ blk X0 T):=xhd fun k hk hm=>by
  rcases blk_mem.1 hm with e|⟨x,hx,e⟩
  ·have:=LAt.lt h.cs k e;omega
  ·have:=h.qs.lt x hx k e;omega
 obtain⟨n,hn⟩:∃n,l.length=n:=⟨_,rfl⟩
 rw [hn] at HRD hmo hle hlen HBA HBN HGO hrl
 clear h hc hn
 go_enter Tryz.func14,Tryz.ntmps14
 go_wp2
 go_loopw [5,6,7] (fun mo le iv W=>∃k:Nat,k≤n∧iv= .int .i64 k∧mo= .int .i64 (mostTo l k:Nat)∧le= .int .i64 (leastTo l k:Nat)∧Hid (mostTo l k < n∧leastTo l k < n)∧Hid (Turned [] w W)) (fun _ _ iv _=>n - (intOf iv).toNat)
 case atStart=>exact⟨0,Nat.zero_le _,rfl,rfl,rfl,xhd ⟨by simp [mostTo];omega,by simp [leastTo];omega⟩,xhd (Turned.refl _ _)⟩
 case round=>
  obtain⟨k,hk,rfl,rfl,rfl,HML,HT⟩:=hrel
  obtain⟨g,cap,c0,hd⟩:=HRD.out _ HT.out
  have HD:=xhd hd
  clear hd
  by_cases hlt:k < n
  ·have em:=mostTo_succ l k
   have el:=leastTo_succ l k
   obtain⟨hm0,hl0⟩:=HML.out
   obtain⟨d1,p1,L1,_⟩:=HD.out k hlt
   obtain⟨d2,p2,L2,_⟩:=HD.out _ hm0
   obtain⟨d3,p3,L3,_⟩:=HD.out _ hl0
   have HL1:=xhd L1
   have HL2:=xhd L2
   have HL3:=xhd L3
   clear L1 L2 L3
   have HEM:=xhd em
   have HEL:=xhd el
   have HLT:=xhd hlt
   have i0:(0:Int)≤k:=by omega
   have i1:(k:Int) < n:=by omega
   have i2:(0:Int)≤(mostTo l k:Nat):=by omega
   have i3:((mostTo l k:Nat):Int) < n:=by omega
   have i4:(0:Int)≤(leastTo l k:Nat):=by omega
   have i5:((leastTo l k:Nat):Int) < n:=by omega
   clear hm0 hl0 em el
   generalize mostTo l k=m at i2 i3 p2 HL2 HEM HML ⊢
   generalize leastTo l k=s at i4 i5 p3 HL3 HEL HML ⊢
   generalize loadAt l k=la at HL1 HEM HEL
   generalize loadAt l m=lm at HL2 HEM
   generalize loadAt l s=ls at HL3 HEL
   have HP:Hid (∀W,Turned [] wr W→W.cell? ⟨b,0,none⟩=some (.slice (some ⟨g,0,none⟩) n cap)∧W.cell? ⟨g,k,none⟩=some (.pointer (some ⟨d1,0,none⟩))∧W.cell? ⟨g,m,none⟩=some (.pointer (some ⟨d2,0,none⟩))∧W.cell? ⟨g,s,none⟩=some (.pointer (some ⟨d3,0,none⟩))):=xhd fun W t=>⟨t.cell0 c0,t.cell0 p1,t.cell0 p2,t.cell0 p3⟩
   have C1:Hid (∀nq,Calls Tryz.prog 46 #[.pointer (some ⟨d1,0,none⟩)] (wr.drewN nq) fun e w'=>e= .returned (.int .i64 la)∧w'=wr.drewN nq):=xhd fun nq=>(HL1.out (wr.drewN nq) (HT.out.drewN nq)).mono fun _ _ h=>⟨h.1,h.2.symm⟩
   have C2:Hid (∀nq,Calls Tryz.prog 46 #[.pointer (some ⟨d2,0,none⟩)] (wr.drewN nq) fun e w'=>e= .returned (.int .i64 lm)∧w'=wr.drewN nq):=xhd fun nq=>(HL2.out (wr.drewN nq) (HT.out.drewN nq)).mono fun _ _ h=>⟨h.1,h.2.symm⟩
   clear hk hlt
   cases a1:decide (lm < la) with
   |true=>
    cases a2:decide (la < ls) with
    |true=>
     go_wp2_with fail
     go_big_quiet ((go_at_call 46;first|with_reducible exact Calls.quiet_of_same (C1.out _) |with_reducible exact Calls.quiet_of_same (C2.out _)))
     have T1:=xhd (HT.out.drewN nq)
     have P1:=xhd (HP.out _ ((Turned.refl [] wr).drewN nq))
     clear c0 p1 p2 p3 C1 C2
     generalize wr.drewN nq=W1 at T1 P1 ⊢
     obtain⟨c0,p1,p2,p3⟩:=P1.out
     have C1:Hid (∀nq,Calls Tryz.prog 46 #[.pointer (some ⟨d1,0,none⟩)] (W1.drewN nq) fun e w'=>e= .returned (.int .i64 la)∧w'=W1.drewN nq):=xhd fun nq=>(HL1.out (W1.drewN nq) (T1.out.drewN nq)).mono fun _ _ h=>⟨h.1,h.2.symm⟩
     have C3:Hid (∀nq,Calls Tryz.prog 46 #[.pointer (some ⟨d3,0,none⟩)] (W1.drewN nq) fun e w'=>e= .returned (.int .i64 ls)∧w'=W1.drewN nq):=xhd fun nq=>(HL3.out (W1.drewN nq) (T1.out.drewN nq)).mono fun _ _ h=>⟨h.1,h.2.symm⟩
     go_wp2_with fail
     go_big_quiet ((go_at_call 46;first|with_reducible exact Calls.quiet_of_same (C1.out _) |with_reducible exact Calls.quiet_of_same (C3.out _)))
     have T2:=xhd (T1.out.drewN nq)
     clear c0 p1 p2 p3 C1 C3
     generalize W1.drewN nq=W2 at T2 ⊢
     go_wp2
     go_roundw
     case rel=>exact⟨k+1,HLT.out,by go_num,by rw [HEM.out];rw [if_pos (of_decide_eq_true a1)],by rw [HEL.out];rw [if_pos (of_decide_eq_true a2)],xhd ⟨by rw [HEM.out];rw [if_pos (of_decide_eq_true a1)];exact HLT.out,by rw [HEL.out];rw [if_pos (of_decide_eq_true a2)];exact HLT.out⟩,T2⟩
     case measure=>have:=HLT.out;simp [intOf];omega
    |false=>
     go_wp2_with fail
     go_big_quiet ((go_at_call 46;first|with_reducible exact Calls.quiet_of_same (C1.out _) |with_reducible exact Calls.quiet_of_same (C2.out _)))
     have T1:=xhd (HT.out.drewN nq)
     have P1:=xhd (HP.out _ ((Turned.refl [] wr).drewN nq))
     clear c0 p1 p2 p3 C1 C2
     generalize wr.drewN nq=W1 at T1 P1 ⊢
     obtain⟨c0,p1,p2,p3⟩:=P1.out
     have C1:Hid (∀nq,Calls Tryz.prog 46 #[.pointer (some ⟨d1,0,none⟩)] (W1.drewN nq) fun e w'=>e= .returned (.int .i64 la)∧w'=W1.drewN nq):=xhd fun nq=>(HL1.out (W1.drewN nq) (T1.out.drewN nq)).mono fun _ _ h=>⟨h.1,h.2.symm⟩
     have C3:Hid (∀nq,Calls Tryz.prog 46 #[.pointer (some ⟨d3,0,none⟩)] (W1.drewN nq) fun e w'=>e= .returned (.int .i64 ls)∧w'=W1.drewN nq):=xhd fun nq=>(HL3.out (W1.drewN nq) (T1.out.drewN nq)).mono fun _ _ h=>⟨h.1,h.2.symm⟩
     go_wp2_with fail
     go_big_quiet ((go_at_call 46;first|with_reducible exact Calls.quiet_of_same (C1.out _) |with_reducible exact Calls.quiet_of_same (C3.out _)))
     have T2:=xhd (T1.out.drewN nq)
     clear c0 p1 p2 p3 C1 C3
     generalize W1.drewN nq=W2 at T2 ⊢
     go_wp2
     go_roundw
     case rel=>exact⟨k+1,HLT.out,by go_num,by rw [HEM.out];rw [if_pos (of_decide_eq_true a1)],by rw [HEL.out];rw [if_neg (of_decide_eq_false a2)],xhd ⟨by rw [HEM.out];rw [if_pos (of_decide_eq_true a1)];exact HLT.out,by rw [HEL.out];rw [if_neg (of_decide_eq_false a2)];exact HML.out.2⟩,T2⟩
     case measure=>have:=HLT.out;simp [intOf];omega
   |false=>
    cases a2:decide (la < ls) with
    |true=>
     go_wp2_with fail
     go_big_quiet ((go_at_call 46;first|with_reducible exact Calls.quiet_of_same (C1.out _) |with_reducible exact Calls.quiet_of_same (C2.out _)))
     have T1:=xhd (HT.out.drewN nq)
     have P1:=xhd (HP.out _ ((Turned.refl [] wr).drewN nq))
     clear c0 p1 p2 p3 C1 C2
     generalize wr.drewN nq=W1 at T1 P1 ⊢
     obtain⟨c0,p1,p2,p3⟩:=P1.out
     have C1:Hid (∀nq,Calls Tryz.prog 46 #[.pointer (some ⟨d1,0,none⟩)] (W1.drewN nq) fun e w'=>e= .returned (.int .i64 la)∧w'=W1.drewN nq):=xhd fun nq=>(HL1.out (W1.drewN nq) (T1.out.drewN nq)).mono fun _ _ h=>⟨h.1,h.2.symm⟩
     have C3:Hid (∀nq,Calls Tryz.prog 46 #[.pointer (some ⟨d3,0,none⟩)] (W1.drewN nq) fun e w'=>e= .returned (.int .i64 ls)∧w'=W1.drewN nq):=xhd fun nq=>(HL3.out (W1.drewN nq) (T1.out.drewN nq)).mono fun _ _ h=>⟨h.1,h.2.symm⟩
     go_wp2_with fail
     go_big_quiet ((go_at_call 46;first|with_reducible exact Calls.quiet_of_same (C1.out _) |with_reducible exact Calls.quiet_of_same (C3.out _)))
     have T2:=xhd (T1.out.drewN nq)
     clear c0 p1 p2 p3 C1 C3
     generalize W1.drewN nq=W2 at T2 ⊢
     go_wp2
     go_roundw
     case rel=>exact⟨k+1,HLT.out,by go_num,by rw [HEM.out];rw [if_neg (of_decide_eq_false a1)],by rw [HEL.out];rw [if_pos (of_decide_eq_true a2)],xhd ⟨by rw [HEM.out];rw [if_neg (of_decide_eq_false a1)];exact HML.out.1,by rw [HEL.out];rw [if_pos (of_decide_eq_true a2)];exact HLT.out⟩,T2⟩
     case measure=>have:=HLT.out;simp [intOf];omega
    |false=>
     go_wp2_with fail
     go_big_quiet ((go_at_call 46;first|with_reducible exact Calls.quiet_of_same (C1.out _) |with_reducible exact Calls.quiet_of_same (C2.out _)))
     have T1:=xhd (HT.out.drewN nq)
     have P1:=xhd (HP.out _ ((Turned.refl [] wr).drewN nq))
     clear c0 p1 p2 p3 C1 C2
     generalize wr.drewN nq=W1 at T1 P1 ⊢
     obtain⟨c0,p1,p2,p3⟩:=P1.out
     have C1:Hid (∀nq,Calls Tryz.prog 46 #[.pointer (some ⟨d1,0,none⟩)] (W1.drewN nq) fun e w'=>e= .returned (.int .i64 la)∧w'=W1.drewN nq):=xhd fun nq=>(HL1.out (W1.drewN nq) (T1.out.drewN nq)).mono fun _ _ h=>⟨h.1,h.2.symm⟩
     have C3:Hid (∀nq,Calls Tryz.prog 46 #[.pointer (some ⟨d3,0,none⟩)] (W1.drewN nq) fun e w'=>e= .returned (.int .i64 ls)∧w'=W1.drewN nq):=xhd fun nq=>(HL3.out (W1.drewN nq) (T1.out.drewN nq)).mono fun _ _ h=>⟨h.1,h.2.symm⟩
     go_wp2_with fail
     go_big_quiet ((go_at_call 46;first|with_reducible exact Calls.quiet_of_same (C1.out _) |with_reducible exact Calls.quiet_of_same (C3.out _)))
     have T2:=xhd (T1.out.drewN nq)
     clear c0 p1 p2 p3 C1 C3
     generalize W1.drewN nq=W2 at T2 ⊢
     go_wp2
     go_roundw
     case rel=>exact⟨k+1,HLT.out,by go_num,by rw [HEM.out];rw [if_neg (of_decide_eq_false a1)],by rw [HEL.out];rw [if_neg (of_decide_eq_false a2)],xhd ⟨by rw [HEM.out];rw [if_neg (of_decide_eq_false a1)];exact HML.out.1,by rw [HEL.out];rw [if_neg (of_decide_eq_false a2)];exact HML.out.2⟩,T2⟩
     case measure=>have:=HLT.out;simp [intOf];omega
  ·have hkn:k=n:=by omega
   subst hkn
   obtain⟨d2,p2,_,R2⟩:=HD.out _ hmo
   have i2:(0:Int)≤(mostTo l k:Nat):=by omega
   have i3:((mostTo l k:Nat):Int) < k:=by omega
   have i4:(0:Int)≤(leastTo l k:Nat):=by omega
   have i5:((leastTo l k:Nat):Int) < k:=by omega
   have HMO:=xhd hmo
   have HLE:=xhd hle
   have HR2:=xhd (R2 wr HT.out)
   have hma:=HLR.out (mostTo l k)
   have hla:=HLR.out (leastTo l k)
   have hwrap:IntKind.i64.wrap (loadAt l (mostTo l k) - loadAt l (leastTo l k))=loadAt l (mostTo l k) - loadAt l (leastTo l k):=by rw [IntKind.wrap_i64];omega
   have HW:=xhd hwrap
   clear R2 hmo hle hma hla hwrap HML HLR
   generalize hS:readyAt l (mostTo l k)=S at HR2 HBA HBN hrl
   generalize hM:mostTo l k=mo at p2 i2 i3 HMO HW HBA HBN HGO hS ⊢
   generalize hL:leastTo l k=le at i4 i5 HLE HW HBA HBN HGO ⊢
   generalize hA:loadAt l mo=lm at HW HBA HBN
   generalize hB:loadAt l le=ls at HW HBA HBN
   have HA:=xhd hA
   have HB:=xhd hB
   clear hS hM hL hA hB hk hlt
   go_wp2_with fail
   with_reducible refine HR2.out.mono ?_
   rintro e V ⟨v,rfl,hrow,hb⟩
   have HY:Hid (RdyI w V v S):=xhd ⟨ownsRow_base hrow HT.out.size,(HT.out.below (by simp) (Nat.le_refl _)).trans (hb.mono HT.out.size)⟩
   obtain⟨av,cv,rfl,hcv1,hcv2⟩:=ownsRow_shape hrow
   obtain⟨len,hlen'⟩:∃m,S.length=m:=⟨_,rfl⟩
   have HLN:=xhd hlen'
   rw [hlen'] at HY hrl ⊢
   clear hrow hb hcv1 hcv2 hlen' c0 p2
   go_wp2
   go_loopw [9] (fun iv W=>∃i:Nat,i≤len∧iv= .int .i64 i∧Hid (∀j (hj:j < S.length),j < i→lm - ls≤S[j].2.2)∧Hid (RdyI w W (.slice av len cv) S)) (fun iv _=>len - (intOf iv).toNat)
   case atStart=>exact⟨0,Nat.zero_le _,rfl,xhd fun j hj h=>absurd h (Nat.not_lt_zero j),HY⟩
   case round=>
    clear HY V
    obtain⟨i,hi,rfl,HP,HY⟩:=hrel
    by_cases hlt:i < len
    ·have HLT:=xhd hlt
     have hil:i < S.length:=by rw [HLN.out];exact hlt
     have HIL:=xhd hil
     have TW:=xhd (turned_below (X:=[]) HY.out.bel)
     obtain⟨g',cap',c0,hd'⟩:=HRD.out wr TW.out
     obtain⟨d1,p1,L1,_⟩:=hd' _ HMO.out
     obtain⟨d3,p3,L3,_⟩:=hd' _ HLE.out
     rw [HA.out] at L1
     rw [HB.out] at L3
     have C1:Hid (∀nq,Calls Tryz.prog 46 #[.pointer (some ⟨d1,0,none⟩)] (wr.drewN nq) fun e w'=>e= .returned (.int .i64 lm)∧w'=wr.drewN nq):=xhd fun nq=>(L1 (wr.drewN nq) (TW.out.drewN nq)).mono fun _ _ h=>⟨h.1,h.2.symm⟩
     have C3:Hid (∀nq,Calls Tryz.prog 46 #[.pointer (some ⟨d3,0,none⟩)] (wr.drewN nq) fun e w'=>e= .returned (.int .i64 ls)∧w'=wr.drewN nq):=xhd fun nq=>(L3 (wr.drewN nq) (TW.out.drewN nq)).mono fun _ _ h=>⟨h.1,h.2.symm⟩
     obtain⟨gv,cv',hgv,_,_⟩:=ownsRow_pos HY.out.row (by omega)
     have hav:av=some ⟨gv,0,none⟩:=by
      injection hgv
     subst hav
     have rc:=row_cells encTk_len (ownsRow_base HY.out.row (Nat.zero_le _)) hil
     have r0:=(rc 0 (by omega)).1
     have r2:=(rc 2 (by omega)).1
     simp only [encTk,List.getElem?_cons_zero,List.getElem?_cons_succ,Nat.add_zero] at r0 r2
     have hgl:gv ∉ blk X0 T:=HOFF.out gv (row_at HY.out.row)
     have HGL:=xhd hgl
     have hx:∃x:Tk,S[i]=x:=⟨_,rfl⟩
     obtain⟨⟨x1,x2,x3⟩,hx⟩:=hx
     replace r0:wr.cell? ⟨gv,i*3,none⟩=some (.int .i64 x1):=r0.trans (congrArg (fun x:Tk=>some (Value.int .i64 x.1)) hx)
     replace r2:wr.cell? ⟨gv,i*3+2,none⟩=some (.int .i64 x3):=r2.trans (congrArg (fun x:Tk=>some (Value.int .i64 x.2.2)) hx)
     have hx1:S[i].1=x1:=congrArg (fun x:Tk=>x.1) hx
     have hx3:S[i].2.2=x3:=congrArg (fun x:Tk=>x.2.2) hx
     have HBI:=xhd (fun (h1:x3 < lm - ls)=>(HBA.out i hil (hx3 ▸ h1) HP.out).trans (congrArg (fun z=>some (z,mo,le)) hx1))
     have HNX:Hid (lm - ls≤x3→∀j (hj:j < S.length),j < i+1→lm - ls≤S[j].2.2):=xhd fun hn j hj hji=>by
      by_cases e:j=i
      ·subst e
       exact hx3 ▸ hn
      ·exact HP.out j hj (by omega)
     have j0:(0:Int)≤i:=by omega
     have j1:(i:Int) < len:=by omega
     have hw:=HW.out
     clear hd' L1 L3 hgv rc hgl hx hx1 hx3 hil hi hlt
     cases a1:decide (x3 < lm - ls) with
     |true=>
      have HBC:=xhd (HBI.out (of_decide_eq_true a1))
      obtain⟨hbv,hmv⟩:=HGO.out _ HBC.out
      have HBV:=xhd hbv
      have HMV:=xhd hmv
      clear hbv hmv
      go_wp2_with fail
      go_big_quiet ((go_at_call 46;first|with_reducible exact Calls.quiet_of_same (C1.out _) |with_reducible exact Calls.quiet_of_same (C3.out _)))
      have T1:=xhd (TW.out.drewN nq)
      have q0:(wr.drewN nq).cell? ⟨gv,i*3,none⟩=some (.int .i64 x1):=r0
      clear c0 p1 p3 r0 r2 C1 C3 hw a1
      generalize wr.drewN nq=W1 at T1 q0 ⊢
      go_wp2_with fail
      with_reducible refine (HMV.out W1 T1.out).mono ?_
      rintro e W2 ⟨rfl,t2,hE⟩
      have HE:=xhd hE
      have q2:=t2.cellX q0 HGL.out
      clear hE t2 q0
      go_wp2
      go_ret3
      rw [HBV.out]
      exact⟨rfl,HE.out⟩
     |false=>
      go_wp2_with fail
      go_big_quiet ((go_at_call 46;first|with_reducible exact Calls.quiet_of_same (C1.out _) |with_reducible exact Calls.quiet_of_same (C3.out _)))
      have HY1:=xhd (HY.out.later (below_drawn wr nq))
      have HN1:=xhd (HNX.out (Int.not_lt.1 (of_decide_eq_false a1)))
      clear c0 p1 p3 r0 r2 C1 C3 hw a1
      generalize wr.drewN nq=W1 at HY1 ⊢
      go_wp2
      go_roundw
      case rel=>exact⟨i+1,HLT.out,by go_num,HN1,HY1⟩
      case measure=>have:=HLT.out;simp [intOf];omega
    ·have hil:i=len:=by omega
     subst hil
     have HBC:=xhd (HBN.out fun j hj=>HP.out j hj (by rw [←HLN.out];exact hj))
     have HE:=xhd (HNO.out HBC.out wr (turned_below (X:=[]) HY.out.bel))
     go_wp2
     go_ret3
     rw [HE.out.1]
     exact⟨rfl,HE.out.2⟩
end Go.Proofs.YtfmciiffcmfagaaGreat
namespace Go.Proofs.YtfmciiffcmfagaaGreat
open Go.RowKit
abbrev Dc:=Int×Int×Int×Int×Int
def wfC (x:Dc):Prop:=0≤x.1∧isI x.2.1∧isI x.2.2.1∧Word x.2.2.2.1∧isI x.2.2.2.2
theorem R17.types {S:RqSaid} (C:CoSaid S) {w:World} {d:Nat} {X1:List Nat} {T1:List Tq} {l:List Rq} (h:R17 w d X1 T1 l):∀k ∈ blk X1 T1,∀cs t fz,w.heap[k]?=some (.cells cs t fz)→S.tn t=false:=fun k hk cs t fz ho=>by
 rcases blk_mem.1 hk with e|⟨x,hx,e⟩
 ·obtain⟨v,h1,h2,rfl⟩:=h.cs
  rcases List.mem_cons.1 e with rfl|e
  ·rw [h1] at ho
   simp only [Option.some.injEq,Obj.cells.injEq] at ho
   rw [←ho.2.1]
   exact C.offC
  ·obtain⟨cur,hc⟩:=ownsRow_type h2 k e
   rw [hc] at ho
   simp only [Option.some.injEq,Obj.cells.injEq] at ho
   rw [←ho.2.1]
   exact C.offP
 ·obtain⟨i,hi⟩:=List.mem_iff_getElem?.1 hx
  have hil:i < l.length:=by have:=(List.getElem?_eq_some_iff.1 hi).1;have:=h.qs.len;omega
  obtain⟨v,h1,h2,hX⟩:=h.qs.at_ i x _ hi (List.getElem?_eq_getElem hil)
  rw [hX] at e
  rcases List.mem_cons.1 e with e|e
  ·rw [e,h1] at ho
   simp only [Option.some.injEq,Obj.cells.injEq] at ho
   rw [←ho.2.1]
   exact S.offQ
  ·obtain⟨cur,hc⟩:=ownsRow_type h2 k e
   rw [hc] at ho
   simp only [Option.some.injEq,Obj.cells.injEq] at ho
   rw [←ho.2.1]
   exact S.offT
theorem R17.all_lt {w:World} {d:Nat} {X1:List Nat} {T1:List Tq} {l:List Rq} (h:R17 w d X1 T1 l):∀k ∈ blk X1 T1,k < w.heap.size:=fun k hk=>by
 rcases blk_mem.1 hk with e|⟨x,hx,e⟩
 ·exact LAt.lt h.cs k e
 ·exact h.qs.lt x hx k e
structure DuoC (S:RqSaid) (C:CoSaid S) (w W:World) (b:Nat) (X0:List Nat) (T:List Tq) (d:Nat) (X1:List Nat) (T1:List Tq) (lp ld:List Rq):Prop where
 at_:CAt C.Own S.At W b X0 T lp
 ref:R17 W d X1 T1 ld
 dj:∀k ∈ blk X0 T,k ∉ blk X1 T1
 lx:∀k ∈ blk X0 T,w.heap.size≤k
 ly:∀k ∈ blk X1 T1,w.heap.size≤k
 t:Turned [] w W
section
variable {S:RqSaid} {C:CoSaid S} {w W W':World} {b d:Nat} {X0 X0' X1 X1':List Nat} {T T' T1 T1':List Tq} {lp ld l':List Rq}
theorem DuoC.later (h:DuoC S C w W b X0 T d X1 T1 lp ld) (t:Turned [] W W'):DuoC S C w W' b X0 T d X1 T1 lp ld:=
 ⟨h.at_.keep0 t,h.ref.keep t (by simp),h.dj,h.lx,h.ly,h.t.also t⟩
theorem DuoC.prog (h:DuoC S C w W b X0 T d X1 T1 lp ld) (a:CAt C.Own S.At W' b X0' T' l') (t:Turned (blk X0 T) W W') (n:Newer (blk X0 T) W.heap.size (blk X0' T')):DuoC S C w W' b X0' T' d X1 T1 l' ld:=by
 have hs:=h.t.size
 refine⟨a,h.ref.keep t (fun k hk hx=>h.dj k hx hk),fun k hk hy=>?_,fun k hk=>?_,h.ly,h.t.trans t (fun k hk=> .inr (h.lx k hk))⟩
 ·rcases n k hk with h1|h1
  ·exact h.dj k h1 hy
  ·have:=h.ref.all_lt k hy
   omega
 ·rcases n k hk with h1|h1
  ·exact h.lx k h1
  ·omega
theorem DuoC.doc (h:DuoC S C w W b X0 T d X1 T1 lp ld) (r:R17 W' d X1' T1' l') (t:Turned (blk X1 T1) W W') (n:Newer (blk X1 T1) W.heap.size (blk X1' T1')):DuoC S C w W' b X0 T d X1' T1' lp l':=by
 have hs:=h.t.size
 refine⟨h.at_.keep t h.dj (h.ref.types C),r,fun k hk hy=>?_,h.lx,fun k hk=>?_,h.t.trans t (fun k hk=> .inr (h.ly k hk))⟩
 ·rcases n k hy with h1|h1
  ·exact h.dj k hk h1
  ·have:=h.at_.all_lt k hk
   omega
 ·rcases n k hk with h1|h1
  ·exact h.ly k h1
  ·omega
theorem DuoC.off (h:DuoC S C w W b X0 T d X1 T1 lp ld) {z:Nat} (hz:W.heap.size≤z):z ∉ blk X0 T∧z ∉ blk X1 T1:=
 ⟨fun hx=>by have:=h.at_.all_lt _ hx;omega,fun hx=>by have:=h.ref.all_lt _ hx;omega⟩
theorem off_new {X Y:List Nat} {n z:Nat} (hz:z ∉ X) (hn:Newer X n Y) (hl:z < n):z ∉ Y:=fun hy=>by
 rcases hn z hy with h|h
 ·exact hz h
 ·omega
end
end Go.Proofs.YtfmciiffcmfagaaGreat
namespace Go.Proofs.YtfmciiffcmfagaaGreat
open Go.ChangeShapes Go.WideShapes Go.ChangeAt Go.RowKit Go.Deep
theorem two_of {xs:List Int} (h:xs.length=2):∃a b,xs=[a,b]:=by
 match xs,h with
 |[a,b],_=>exact⟨a,b,rfl⟩
section
variable {H:Type} {enc:TypeId×Value→H} {P:Program}
variable {w:World} {base:Nat} {spare:Nat→Bool} {held:Bool}
theorem open_deeds17 {t e:TypeId} {f0 f1 f2 f3 f4:Field} (ht:P.underlying t=some (.slice e)) (he:P.underlying e=some (.struct #[f0,f1,f2,f3,f4])) (hC:P.cellsOf e=5)
  (o0:f0.offset=0) (o1:f1.offset=1) (o2:f2.offset=2) (o3:f3.offset=3) (o4:f4.offset=4) (c0:P.cellsOf f0.type=1) (c1:P.cellsOf f1.type=1) (c2:P.cellsOf f2.type=1) (c3:P.cellsOf f3.type=1) (c4:P.cellsOf f4.type=1)
  (k0:P.underlying f0.type=some (.int .u8)) (k1:P.underlying f1.type=some (.int .i64)) (k2:P.underlying f2.type=some (.int .i64)) (k3:P.underlying f3.type=some (.int .u64)) (k4:P.underlying f4.type=some (.int .i64))
  {v:Value} {d:DataW H} {p:List MemPlace} {r:Reach} {b0:Nat} (hok:Value.okWide P w r b0 t v) (h:DataW.Trod enc P w base spare held t v d p):
  ∃(ao:Option Addr) (b off n cap:Nat) (E:Nat→Dc),v= .slice ao n cap∧n≤maxLen∧(0 < n→ao=some ⟨b,off,none⟩∧b < w.heap.size)∧
   (∀i,i < n→w.cell? ⟨b,off+i*5,none⟩=some (.int .u8 (E i).1)∧w.cell? ⟨b,off+i*5+1,none⟩=some (.int .i64 (E i).2.1)∧w.cell? ⟨b,off+i*5+2,none⟩=some (.int .i64 (E i).2.2.1)∧w.cell? ⟨b,off+i*5+3,none⟩=some (.int .u64 (E i).2.2.2.1)∧w.cell? ⟨b,off+i*5+4,none⟩=some (.int .i64 (E i).2.2.2.2))∧
   (∀i,i < n→wfC (E i)):=by
 obtain⟨fuel,hf⟩:=h
 obtain⟨a',len',cap',rfl⟩:=okWide_slice ht hok
 rcases open_slice ht hf with⟨hcs,_⟩ |⟨a,len,cap,m,n,D,Pl,hcs,hb,hl,hm,hmm,hx,hi⟩
 ·have hv:Value.slice a' len' cap'= .slice none 0 0:=by simpa [Value.cells] using hcs
  exact⟨none,0,0,0,0,fun _=>(0,0,0,0,0),hv,Nat.zero_le _,fun h=>by omega,fun i h=>by omega,fun i h=>by omega⟩
 ·have hv:Value.slice a' len' cap'= .slice (some a) len cap:=by simpa [Value.cells] using hcs
  have hlm:len≤m:=by rw [hmm];split<;>omega
  have each:∀i,∃x:Dc,i < len→(w.cell? (a.add (i*5))=some (.int .u8 x.1)∧w.cell? ((a.add (i*5)).add 1)=some (.int .i64 x.2.1)∧w.cell? ((a.add (i*5)).add 2)=some (.int .i64 x.2.2.1)∧w.cell? ((a.add (i*5)).add 3)=some (.int .u64 x.2.2.2.1)∧w.cell? ((a.add (i*5)).add 4)=some (.int .i64 x.2.2.2.2))∧wfC x:=by
   intro i
   by_cases hil:i < len
   ·obtain⟨cs',hc,ht'⟩:=hi i (by omega)
    rw [hC] at hc
    obtain⟨ys,n',hn',hy,hlen,hyl,hg⟩:=DataW.trod_struct he ht'
    simp only [List.size_toArray,List.length_cons,List.length_nil] at hyl
    obtain⟨_,hcl,hat⟩:=World.cells?_some hc
    have t0:=hg 0 f0 rfl
    have t1:=hg 1 f1 rfl
    have t2:=hg 2 f2 rfl
    have t3:=hg 3 f3 rfl
    have t4:=hg 4 f4 rfl
    rw [o0,c0,List.getElem?_eq_getElem (by omega)] at t0
    rw [o1,c1,List.getElem?_eq_getElem (by omega)] at t1
    rw [o2,c2,List.getElem?_eq_getElem (by omega)] at t2
    rw [o3,c3,List.getElem?_eq_getElem (by omega)] at t3
    rw [o4,c4,List.getElem?_eq_getElem (by omega)] at t4
    obtain⟨x0,e0,_,w0⟩:=DataW.trod_int k0 t0
    obtain⟨x1,e1,_,w1⟩:=DataW.trod_int k1 t1
    obtain⟨x2,e2,_,w2⟩:=DataW.trod_int k2 t2
    obtain⟨x3,e3,_,w3⟩:=DataW.trod_int k3 t3
    obtain⟨x4,e4,_,w4⟩:=DataW.trod_int k4 t4
    have e0:=cut_one e0
    have e1:=cut_one e1
    have e2:=cut_one e2
    have e3:=cut_one e3
    have e4:=cut_one e4
    refine⟨(x0,x1,x2,x3,x4),fun _=>⟨⟨?_,?_,?_,?_,?_⟩,(u8_low w0).1,isI_of w1,isI_of w2,u64_word w3,isI_of w4⟩⟩
    ·have h0:=hat 0 (by omega)
     rw [e0] at h0
     have:a.add (i*5)=(a.add (i*5)).add 0:=by
      unfold Addr.add
      simp
     rw [this]
     exact h0
    ·rw [hat 1 (by omega),e1]
    ·rw [hat 2 (by omega),e2]
    ·rw [hat 3 (by omega),e3]
    ·rw [hat 4 (by omega),e4]
   ·exact⟨(0,0,0,0,0),fun h=>absurd h hil⟩
  obtain⟨G,hG⟩:=Classical.axiomOfChoice each
  by_cases h0:0 < len
  ·obtain⟨⟨c0,_⟩,_⟩:=hG 0 h0
   have ha0:a.add (0*5)=a:=by
    unfold Addr.add
    simp
   rw [ha0] at c0
   obtain⟨b,off,rfl,hbl⟩:=spot_none c0
   refine⟨_,b,off,len,cap,G,hv,by omega,fun _=>⟨rfl,hbl⟩,fun i hil=>?_,fun i hil=>(hG i hil).2⟩
   obtain⟨⟨g0,g1,g2,g3,g4⟩,_⟩:=hG i hil
   simp only [Addr.add_lit] at g0 g1 g2 g3 g4
   exact⟨g0,g1,g2,g3,g4⟩
  ·exact⟨some a,0,0,len,cap,G,hv,by omega,fun h=>absurd h h0,fun i hil=>by omega,fun i hil=>by omega⟩
end
end Go.Proofs.YtfmciiffcmfagaaGreat
namespace Go.Proofs.YtfmciiffcmfagaaGreat
open Go.RowKit
def CoOn (S:RqSaid) (C:CoSaid S) (w V:World) (b:Nat) (l:List Rq):Prop:=∃X0 T,CAt C.Own S.At V b X0 T l∧Turned [] w V∧∀k ∈ blk X0 T,w.heap.size≤k
section
variable {S:RqSaid} {C:CoSaid S} {w V V':World} {b:Nat} {l l':List Rq} {c:Int}
theorem CoOn.t (h:CoOn S C w V b l):Turned [] w V:=by
 obtain⟨_,_,_,t,_⟩:=h
 exact t
theorem CoOn.keep (h:CoOn S C w V b l) (t:Turned [] V V'):CoOn S C w V' b l:=by
 obtain⟨X0,T,a,t0,n⟩:=h
 exact⟨X0,T,a.keep0 t,t0.also t,n⟩
theorem on_step {X0 X0':List Nat} {T T':List Tq} (t0:Turned [] w V) (n:∀k ∈ blk X0 T,w.heap.size≤k) (a:CAt C.Own S.At V' b X0' T' l') (t:Turned (blk X0 T) V V') (n':Newer (blk X0 T) V.heap.size (blk X0' T')):CoOn S C w V' b l':=
 ⟨X0',T',a,t0.trans t (fun k hk=> .inr (n k hk)),fun k hk=>by
   rcases n' k hk with h|h
   ·exact n k h
   ·have:=t0.size;omega⟩
theorem on_new (C:CoSaid S) (n g:Int) (w:World) (hn:isI n) (hg:isI g):Calls Tryz.prog 5 #[.int .i64 n, .int .i64 g] w fun e w'=>∃b,e= .returned (.pointer (some ⟨b,0,none⟩))∧CoOn S C w w' b (newC n g):=
 (C.new n g w hn hg).mono fun e w' h=>by
   obtain⟨b,X0,T,e1,a,t,n⟩:=h
   exact⟨b,e1,X0,T,a,t,n⟩
theorem on_add (h:CoOn S C w V b l) (hc:COk l c) (h1:c≤10000) (core id v wt:Int) (h2:isI core) (h3:isI id) (h4:isI wt) (h5:Word v):
  Calls Tryz.prog 7 #[.pointer (some ⟨b,0,none⟩), .int .i64 core, .int .i64 id, .int .u64 v, .int .i64 wt] V fun e w'=>e= .returned (.tuple #[.int .u64 (addCV l core id v wt), .int .i64 (addCE l core id)])∧CoOn S C w w' b (addC l core id v wt):=by
 obtain⟨X0,T,a,t0,n⟩:=h
 refine (C.add core id v wt a hc h1 h2 h3 h4 h5).mono fun e w' hh=>?_
 obtain⟨e1,X0',T',a',t',n'⟩:=hh
 exact⟨e1,on_step t0 n a' t' n'⟩
theorem on_bal (h:CoOn S C w V b l) (hc:COk l c) (h1:c≤10000):
  Calls Tryz.prog 13 #[.pointer (some ⟨b,0,none⟩)] V fun e w'=>e= .returned (.tuple #[.int .i64 (balV l).1, .int .i64 (balV l).2.1, .int .i64 (balV l).2.2, .bool (balC l).isSome])∧CoOn S C w w' b (balanceC l):=by
 obtain⟨X0,T,a,t0,n⟩:=h
 refine (C.bal a hc h1).mono fun e w' hh=>?_
 obtain⟨e1,X0',T',a',t',n'⟩:=hh
 exact⟨e1,on_step t0 n a' t' n'⟩
theorem on_move (h:CoOn S C w V b l) (hc:COk l c) (h1:c≤10000) (id core:Int) (h2:isI id) (h3:isI core):
  Calls Tryz.prog 11 #[.pointer (some ⟨b,0,none⟩), .int .i64 id, .int .i64 core] V fun e w'=>e= .returned (.int .i64 (moveE l id core))∧CoOn S C w w' b (moveC l id core):=by
 obtain⟨X0,T,a,t0,n⟩:=h
 refine (C.move id core a hc h1 h2 h3).mono fun e w' hh=>?_
 obtain⟨e1,X0',T',a',t',n'⟩:=hh
 exact⟨e1,on_step t0 n a' t' n'⟩
theorem on_of (h:CoOn S C w V b l) (hc:COk l c) (h1:c≤10000) (id:Int) (h2:isI id):
  Calls Tryz.prog 29 #[.pointer (some ⟨b,0,none⟩), .int .i64 id] V fun e w'=>e= .returned (.int .i64 (ofC l id))∧Turned [] V w':=by
 obtain⟨X0,T,a,t0,n⟩:=h
 exact C.of id a hc h1 h2
theorem on_len (h:CoOn S C w V b l) (hc:COk l c) (h1:c≤10000):
  Calls Tryz.prog 30 #[.pointer (some ⟨b,0,none⟩)] V fun e w'=>e= .returned (.int .i64 (l.length:Nat))∧Turned [] V w':=by
 obtain⟨X0,T,a,t0,n⟩:=h
 exact C.len a hc h1
theorem on_loads (h:CoOn S C w V b l) (hc:COk l c) (h1:c≤10000):
  Calls Tryz.prog 28 #[.pointer (some ⟨b,0,none⟩)] V fun e w'=>∃g cap,e= .returned (.slice (some ⟨g,0,none⟩) l.length cap)∧Turned [] V w'∧V.heap.size≤g∧l.length≤cap∧cap≤maxLen∧∀i q,l[i]?=some q→w'.cell? ⟨g,i,none⟩=some (.int .i64 (loadQ q)):=by
 obtain⟨X0,T,a,t0,n⟩:=h
 exact C.loads a hc h1
end
theorem word0c:Word 0:=⟨by omega,by omega⟩
def aA0:List Rq:=newC 2 1
def aA1:List Rq:=addC aA0 0 1 0 3
def aA2:List Rq:=addC aA1 0 2 0 2
def aA3:List Rq:=addC aA2 1 3 0 1
def aA4:List Rq:=balanceC aA3
theorem aA0_ok:COk aA0 8:=cok_new 2 1
theorem aA1_ok:COk aA1 8:=aA0_ok.addC 0 1 word0c 3
theorem aA2_ok:COk aA2 8:=aA1_ok.addC 0 2 word0c 2
theorem aA3_ok:COk aA3 8:=aA2_ok.addC 1 3 word0c 1
theorem aA4_ok:COk aA4 8:=aA3_ok.balanceC
theorem awake17 (S:RqSaid) (C:CoSaid S) (w:World):Calls Tryz.prog 4 #[] w fun e w'=>e= .returned (.bool true)∧Turned [] w w':=by
 have e1:(balV aA3).1=1:=by decide+kernel
 have e2:(balV aA3).2.1=0:=by decide+kernel
 have e3:(balV aA3).2.2=1:=by decide+kernel
 have e4:(balC aA3).isSome=true:=by decide+kernel
 have e5:aA4.length=2:=by decide+kernel
 have e6:ofC aA4 1=1:=by decide+kernel
 have e7:moveE aA4 2 0=12:=by decide+kernel
 have e8:(aA4[0]?).map loadQ=some 2:=by decide+kernel
 have e9:(aA4[1]?).map loadQ=some 4:=by decide+kernel
 have i0:isI 0:=by unfold isI;omega
 have i1:isI 1:=by unfold isI;omega
 have i2:isI 2:=by unfold isI;omega
 have i3:isI 3:=by unfold isI;omega
 have HN:=xhd (on_new C 2 1 w i2 i1)
 have HA1:=xhd (fun V b (h:CoOn S C w V b aA0)=>on_add h aA0_ok (by omega) 0 1 0 3 i0 i1 i3 word0c)
 have HA2:=xhd (fun V b (h:CoOn S C w V b aA1)=>on_add h aA1_ok (by omega) 0 2 0 2 i0 i2 i2 word0c)
 have HA3:=xhd (fun V b (h:CoOn S C w V b aA2)=>on_add h aA2_ok (by omega) 1 3 0 1 i1 i3 i1 word0c)
 have HB:=xhd (fun V b (h:CoOn S C w V b aA3)=>on_bal h aA3_ok (by omega))
 have HL:Hid (∀V b,CoOn S C w V b aA4→Calls Tryz.prog 28 #[.pointer (some ⟨b,0,none⟩)] V fun e w'=>∃g cap,e= .returned (.slice (some ⟨g,0,none⟩) 2 cap)∧CoOn S C w w' b aA4∧2≤cap∧cap≤maxLen∧w'.cell? ⟨g,0,none⟩=some (.int .i64 2)∧w'.cell? ⟨g,1,none⟩=some (.int .i64 4)):=xhd fun V b h=>(on_loads h aA4_ok (by omega)).mono fun e w' hh=>by
  obtain⟨g,cap,h1,h2,h3,h4,h5,h6⟩:=hh
  obtain⟨q0,f0,f1⟩:=Option.map_eq_some_iff.1 e8
  obtain⟨q1,g0,g1⟩:=Option.map_eq_some_iff.1 e9
  have a0:=h6 0 q0 f0
  have a1:=h6 1 q1 g0
  rw [f1] at a0
  rw [g1] at a1
  rw [e5] at h1 h4
  exact⟨g,cap,h1,h.keep h2,h4,h5,a0,a1⟩
 have HO:=xhd (fun V b (h:CoOn S C w V b aA4)=>on_of h aA4_ok (by omega) 1 i1)
 have HE:=xhd (fun V b (h:CoOn S C w V b aA4)=>on_len h aA4_ok (by omega))
 have HM:=xhd (fun V b (h:CoOn S C w V b aA4)=>on_move h aA4_ok (by omega) 2 0 i2 i0)
 rw [e1,e2,e3,e4] at HB
 rw [e6] at HO
 rw [e5] at HE
 rw [e7] at HM
 clear e1 e2 e3 e4 e5 e6 e7 e8 e9 i0 i1 i2 i3
 go_enter Tryz.func4,Tryz.ntmps4
 go_wp2_with fail
 with_reducible refine HN.out.mono ?_
 rintro e w1 ⟨b,rfl,a1⟩
 have A1:=xhd a1
 clear a1 HN
 go_wp2_with fail
 with_reducible refine (HA1.out _ _ A1.out).mono ?_
 rintro e w2 ⟨rfl,a2⟩
 have A2:=xhd a2
 clear a2 A1 HA1
 go_wp2_with fail
 with_reducible refine (HA2.out _ _ A2.out).mono ?_
 rintro e w3 ⟨rfl,a3⟩
 have A3:=xhd a3
 clear a3 A2 HA2
 go_wp2_with fail
 with_reducible refine (HA3.out _ _ A3.out).mono ?_
 rintro e w4 ⟨rfl,a4⟩
 have A4:=xhd a4
 clear a4 A3 HA3
 go_wp2_with fail
 with_reducible refine (HB.out _ _ A4.out).mono ?_
 rintro e w5 ⟨rfl,a5⟩
 have A5:=xhd a5
 clear a5 A4 HB
 go_wp2_with fail
 with_reducible refine (HL.out _ _ A5.out).mono ?_
 rintro e w6 ⟨g,cap,rfl,a6,k0,k1,c0,c1⟩
 have A6:=xhd a6
 unfold maxLen at k1
 clear a6 A5 HL
 go_wp2_with fail
 with_reducible refine (HO.out _ _ A6.out).mono ?_
 rintro e w7 ⟨rfl,t7⟩
 have A7:=xhd (A6.out.keep t7)
 clear t7 A6 HO c0 c1
 go_wp2_with fail
 with_reducible refine (HE.out _ _ A7.out).mono ?_
 rintro e w8 ⟨rfl,t8⟩
 have A8:=xhd (A7.out.keep t8)
 clear t8 A7 HE
 go_wp2_with fail
 with_reducible refine (HM.out _ _ A8.out).mono ?_
 rintro e w9 ⟨rfl,a9⟩
 have A9:=xhd a9
 clear a9 A8 HM
 go_wp2
 go_ret
 exact⟨rfl,A9.out.t⟩
end Go.Proofs.YtfmciiffcmfagaaGreat
namespace Go.Proofs.YtfmciiffcmfagaaGreat
open Go.RowKit
theorem infoP17:(Tryz.prog.info? tP17).map (fun i=>(i.zero,i.size,i.bytes))=some (some (.pointer none),1,8):=by kernel_rfl
theorem R17.more {w w4 W5:World} {b i cap cap5:Nat} {a a5:Option Addr} {X0:List Nat} {T:List Tq} {l:List Rq} {q:Rq} (h:R17 w b X0 T l) (hi:l.length=i) (hc:w.cell? ⟨b,0,none⟩=some (.slice a i cap))
  (b4:Below w.heap.size w w4) (r4:R16 w4 w.heap.size [w.heap.size] q)
  (own5:W5.ownsRow 0 tP17 1 (.slice a5 (i+1) cap5) (i+1) (cellsOf encP (T.map (·.1))++[.pointer (some ⟨w.heap.size,0,none⟩)]))
  (grow5:(w4.alloc (.cells #[.pointer (some ⟨w.heap.size,0,none⟩)] tP17)).grownBy W5 (Value.slice a i cap).ownBlock)
  (new5:∀g ∈ (Value.slice a5 (i+1) cap5).ownBlock.toList,g ∈ (Value.slice a i cap).ownBlock.toList∨(w4.alloc (.cells #[.pointer (some ⟨w.heap.size,0,none⟩)] tP17)).heap.size≤g):
  W5.cell? ⟨b,0,none⟩=some (.slice a i cap)∧W5.frozen? ⟨b,0,none⟩=false∧∃X1,R17 (W5.setCell ⟨b,0,none⟩ (.slice a5 (i+1) cap5)) b X1 (T++[(w.heap.size,[w.heap.size])]) (l++[q])∧
   Turned X0 w (W5.setCell ⟨b,0,none⟩ (.slice a5 (i+1) cap5))∧Newer X0 w.heap.size X1:=by
 obtain⟨v,h1,h2,h3⟩:=h.cs
 have hv:v= .slice a i cap:=by
  have:w.cell? ⟨b,0,none⟩=some v:=by simp [World.cell?,h1]
  rw [hc] at this
  exact (Option.some.inj this).symm
 subst hv
 have hT:T.length=i:=h.qs.len.trans hi
 have tw:Turned [] w (w4.alloc (.cells #[.pointer (some ⟨w.heap.size,0,none⟩)] tP17)):=(turned_below b4).alloc _
 have e1:cellsOf encP (T.map (·.1))++[.pointer (some ⟨w.heap.size,0,none⟩)]=cellsOf encP ((T++[(w.heap.size,[w.heap.size])]).map (·.1)):=by rw [List.map_append,List.map_cons,List.map_nil,cellsOf_snoc]
 have e2:i+1=((T++[(w.heap.size,[w.heap.size])]).map (·.1)).length:=by simp [hT]
 have R:=LAt.appended (W:=w) (W2:=w4.alloc (.cells #[.pointer (some ⟨w.heap.size,0,none⟩)] tP17)) (W1:=W5) (tS:=tC17) (tE:=tP17) (k:=1) (enc:=encP) (cs:=fun v=> #[v]) (v:= .slice a i cap) (i:=0) (v':= .slice a5 (i+1) cap5) (M:=(T++[(w.heap.size,[w.heap.size])]).map (·.1)) (by decide) rfl h1 h2 tw grow5 (by rw [←e1, ←e2];exact own5) new5
 obtain⟨r1,r2,r3,r4'⟩:=R
 rw [←h3] at r3 r4'
 refine⟨by simp [World.cell?,r1],frozen_of_row W5 b 0 _ _ r1,_,⟨r2,?_,fun x hx k hk hk'=>?_⟩,r3,r4'⟩
 ·have hX:∀k ∈ X0,k < w.heap.size:=LAt.lt h.cs
  have ht4:Turned (b::(Value.slice a i cap).ownBlock.toList) w4 (W5.setCell ⟨b,0,none⟩ (.slice a5 (i+1) cap5)):=by
   refine Turned.setCell (Turned.grown (((Turned.refl _ w4).alloc _)) grow5 fun k hk=> .inl (List.mem_cons_of_mem _ (by simp [hk]))) (.inl (by simp)) _
  rw [←h3] at ht4
  have hq:=h.qs.keep (r16_keep r3) r3 h.off
  refine hq.push ?_ (fun k hk=>?_) fun x hx k hk hk'=>?_
  ·exact LAt.keep r4 ht4 fun k hk hk'=>by
    rw [List.mem_singleton] at hk
    have:=hX k hk'
    omega
  ·have:=r16_lt r4 k hk
   exact Nat.lt_of_lt_of_le this ht4.size
  ·rw [List.mem_singleton] at hk'
   have:=h.qs.lt x hx k hk
   omega
 ·rcases List.mem_append.1 hx with e|e
  ·rcases r4' k hk' with e'|e'
   ·exact h.off x e k hk e'
   ·have:=h.qs.lt x e k hk
    omega
  ·rw [List.mem_singleton] at e
   subst e
   rw [List.mem_singleton] at hk
   subst hk
   have hb:=LAt.lt h.cs b (by rw [h3];simp)
   rcases List.mem_cons.1 hk' with e'|e'
   ·omega
   ·rcases new5 _ e' with e2'|e2'
    ·have:=LAt.lt h.cs w.heap.size (by rw [h3];exact List.mem_cons_of_mem _ e2')
     omega
    ·have h5:=r16_lt r4 w.heap.size (by simp)
     rw [World.size_alloc] at e2'
     omega
theorem rcnew_any (n grain:Int) (w:World):
  Calls Tryz.prog 6 #[.int .i64 n, .int .i64 grain] w fun e w'=>∃X0 T,e= .returned (.pointer (some ⟨w.heap.size,0,none⟩))∧R17 w' w.heap.size X0 T (List.replicate (bringR n 1 4).toNat (Rq.new grain))∧Turned [] w w'∧∀k ∈ blk X0 T,w.heap.size≤k:=by
 have HBR:=xhd (fun V=>bring_any n 1 4 V)
 have HNW:=xhd (fun V=>rnew_any grain V)
 have hbr:=bring_range (n:=n) (lo:=1) (hi:=4) (by decide)
 obtain⟨m,hm⟩:∃m:Nat,bringR n 1 4=m:=⟨(bringR n 1 4).toNat,by omega⟩
 rw [hm] at HBR hbr ⊢
 rw [Int.toNat_natCast]
 obtain⟨ii,hi,hz0,hz1,hz2⟩:=info_parts infoP17
 have hm4:m≤4:=by omega
 have h0:R17 (w.alloc (.cells #[.slice none 0 0] tC17)) w.heap.size [w.heap.size] [] (List.replicate 0 (Rq.new grain)):=
  ⟨⟨.slice none 0 0,heap_alloc_new w _,World.ownsRow_nil _ _ _ _,rfl⟩,Cs.nil _ _,fun x hx=>by cases hx⟩
 have H0:=xhd h0
 have HT0:=xhd ((Turned.refl [] w).alloc (.cells #[.slice none 0 0] tC17))
 clear h0 hm hbr
 go_enter Tryz.func6,Tryz.ntmps6
 go_wp2
 have HWS:=xhd (Nat.le_refl w.heap.size)
 obtain⟨b,hb⟩:∃b,w.heap.size=b:=⟨_,rfl⟩
 rw [hb] at H0 HWS ⊢
 have HB0:=xhd hb
 clear hb
 go_loopw [6] (fun iv V=>∃(i:Nat) (X0:List Nat) (T:List Tq),i≤m∧iv= .int .i64 i∧Hid (R17 V b X0 T (List.replicate i (Rq.new grain)))∧Hid (Turned [] w V)∧Hid (∀k ∈ blk X0 T,b≤k)) (fun iv _=>m - (intOf iv).toNat)
 case atStart=>exact⟨0,_,_,Nat.zero_le _,rfl,H0,HT0,xhd (fun k hk=>by simp [blk] at hk;omega)⟩
 case round=>
  clear H0 HT0
  obtain⟨i,X0,T,him,rfl,HR,HT,HK⟩:=hrel
  go_wp2_with fail
  with_reducible refine (HBR.out _).mono ?_
  rintro e w1 ⟨rfl,rfl⟩
  by_cases hlt:i < m
  ·have i1:(i:Int) < m:=by omega
   obtain⟨v,h1,h2,h3⟩:=HR.out.cs
   have hTl:T.length=i:=by have:=HR.out.qs.len;simpa using this
   rw [List.length_map,hTl] at h2
   obtain⟨a,cap,rfl,_,_⟩:=ownsRow_shape h2
   have c0:w1.cell? ⟨b,0,none⟩=some (.slice a i cap):=by simp [World.cell?,h1]
   have HBL:=xhd (lt_of_block h1)
   have HO4:=xhd (fun w4 (b4:Below w1.heap.size w1 w4)=>And.intro ((ownsRow_same h2 fun g hg _=>b4.block g (ownsRow_lt h2 g hg)).alloc (.cells #[.pointer (some ⟨w1.heap.size,0,none⟩)] tP17)) trivial)
   have HAP:=xhd (fun w4 (b4:Below w1.heap.size w1 w4) (r4:R16 w4 w1.heap.size [w1.heap.size] (Rq.new grain)) a5 cap5 W5 own5 grow5 new5=>HR.out.more (l:=List.replicate i (Rq.new grain)) (i:=i) (cap:=cap) (a:=a) (by simp) c0 b4 r4 (a5:=a5) (cap5:=cap5) (W5:=W5) own5 grow5 new5)
   have HLT:=xhd hlt
   clear h1 h2 h3 hlt hTl
   go_wp2_with fail
   have hmix:Tryz.prog.follows .mixedOrders=true:=by kernel_rfl
   refine wp_region_noPanic ?_
   refine wp_region_lastF (fun V=>V.cell? ⟨b,0,none⟩=some (.slice a i cap)) 11 hmix c0 (fun hS0=>?_)
   refine wpAnyF_free (i:=0) (v:=?_) rfl (by kernel_rfl) (by decide) (fun _ _ _ h=>h) (by kernel_rfl) (by kernel_rfl) (Or.inl ⟨by rfl,?hy⟩) (by assumption) ?_
   case hy=>
    intro w _
    go_simp
    try with_reducible rfl
   try simp only [xga];try simp only [xgs];try simp only [xgz];try simp only [Act.put];try simp only [xsa];try simp only [xss];try simp only [xsz]
   refine wpAnyF_free (i:=1) (v:=?_) rfl (by kernel_rfl) (by decide) (fun _ _ _ h=>h) (by kernel_rfl) (by kernel_rfl) (Or.inl ⟨by rfl,?hy⟩) (by assumption) ?_
   case hy=>
    intro w _
    go_simp
    try with_reducible rfl
   try simp only [xga];try simp only [xgs];try simp only [xgz];try simp only [Act.put];try simp only [xsa];try simp only [xss];try simp only [xsz]
   refine wpAnyF_free (i:=2) (v:=?_) rfl (by kernel_rfl) (by decide) (fun _ _ _ h=>h) (by kernel_rfl) (by kernel_rfl) (Or.inl ⟨by rfl,?hy⟩) (by assumption) ?_
   case hy=>
    intro w _
    go_simp
    try with_reducible rfl
   try simp only [xga];try simp only [xgs];try simp only [xgz];try simp only [Act.put];try simp only [xsa];try simp only [xss];try simp only [xsz]
   refine wpAnyF_free (i:=3) (v:=?_) rfl (by kernel_rfl) (by decide) (fun _ _ _ h=>h) (by kernel_rfl) (by kernel_rfl) (Or.inl ⟨by rfl,?hy⟩) (by assumption) ?_
   case hy=>
    intro w _
    go_simp
    try with_reducible rfl
   try simp only [xga];try simp only [xgs];try simp only [xgz];try simp only [Act.put];try simp only [xsa];try simp only [xss];try simp only [xsz]
   refine wpAnyF_take (i:=4) (v:=?_) rfl (by kernel_rfl) (by kernel_rfl) (fun _ _ _ h=>h) (by kernel_rfl) (by kernel_rfl) (by kernel_rfl) (Or.inl ⟨by rfl,?hy⟩) (by assumption) ?_
   case hy=>
    intro w hSw
    (try dsimp only at hSw)
    have s0:=hSw
    go_simp
    try with_reducible rfl
   try simp only [xga];try simp only [xgs];try simp only [xgz];try simp only [Act.put];try simp only [xsa];try simp only [xss];try simp only [xsz]
   refine wpAnyF_free (i:=5) (v:=?_) rfl (by kernel_rfl) (by decide) (fun _ _ _ h=>h) (by kernel_rfl) (by kernel_rfl) (Or.inl ⟨by rfl,?hy⟩) (by assumption) ?_
   case hy=>
    intro w _
    go_simp
    try with_reducible rfl
   try simp only [xga];try simp only [xgs];try simp only [xgz];try simp only [Act.put];try simp only [xsa];try simp only [xss];try simp only [xsz]
   refine wpAnyF_ready (rs:=[6]) (by kernel_rfl) (by simp) ?_
   refine ReadyF.cons rfl (fun K' hK=>?_) ReadyF.nil
   go_simp
   with_reducible refine (HNW.out _).mono ?_
   rintro e w4 ⟨rfl,r4,b4⟩
   have B4:=xhd (((Below.refl _ w1).drew).trans (b4.mono (Nat.le_refl _)))
   have R4:=xhd r4
   clear r4 b4
   have c4:w4.cell? ⟨b,0,none⟩=some (.slice a i cap):=(B4.out.cell (p:=⟨b,0,none⟩) HBL.out).trans c0
   clear c0
   go_wp2_with fail
   refine hK.out _ _ (.inr ?_) ?_
   ·exact c4
   clear hK K'
   try simp only [xga];try simp only [xgs];try simp only [xgz];try simp only [Act.put];try simp only [xsa];try simp only [xss];try simp only [xsz]
   refine wpAnyF_ready (rs:=[7]) (by kernel_rfl) (by simp) ?_
   refine ReadyF.cons rfl (fun K' hK=>?_) ReadyF.nil
   go_simp
   refine hK.out _ _ (.inr ?_) ?_
   ·exact (World.cell?_alloc_old _ _ _ (Nat.ne_of_lt (World.block_lt_of_cell? _ _ c4))).trans c4
   clear hK K'
   try simp only [xga];try simp only [xgs];try simp only [xgz];try simp only [Act.put];try simp only [xsa];try simp only [xss];try simp only [xsz]
   refine wpAnyF_ready (rs:=[8]) (by kernel_rfl) (by simp) ?_
   refine ReadyF.cons rfl (fun K' hK=>?_) ReadyF.nil
   refine wp_append_any _ _ _ 32 rfl tP17 ii (.pointer none) 1 8 Tryz.underlying32 hi hz0 hz1 hz2 rfl (by decide) (.slice a i cap) i _ rfl (HO4.out w4 B4.out).1 (some ⟨w4.heap.size,0,none⟩) 1 1 [.pointer (some ⟨w1.heap.size,0,none⟩)] rfl rfl (by intro h;cases h) (by intro ad had;cases had;exact cell_one_new _ _ _) (by intro y hy;simp at hy;subst hy;rfl) (by unfold maxLen;omega) (by omega) ?_
   intro a5 cap5 W5 own5 grow5 new5
   have HE5:=xhd (HAP.out w4 B4.out R4.out a5 cap5 W5 own5 grow5 new5)
   clear own5 grow5 new5
   refine hK.out _ _ (.inr ?_) ?_
   ·exact HE5.out.1
   clear hK K'
   have c5:=HE5.out.1
   have f5:=HE5.out.2.1
   try simp only [xga];try simp only [xgs];try simp only [xgz];try simp only [Act.put];try simp only [xsa];try simp only [xss];try simp only [xsz]
   refine wpAnyF_free (i:=9) (v:=?_) rfl (by kernel_rfl) (by decide) (fun _ _ _ h=>h) (by kernel_rfl) (by kernel_rfl) (Or.inl ⟨by rfl,?hy⟩) (by assumption) ?_
   case hy=>
    intro w _
    go_simp
    try with_reducible rfl
   try simp only [xga];try simp only [xgs];try simp only [xgz];try simp only [Act.put];try simp only [xsa];try simp only [xss];try simp only [xsz]
   refine wpAnyF_free (i:=10) (v:=?_) rfl (by kernel_rfl) (by decide) (fun _ _ _ h=>h) (by kernel_rfl) (by kernel_rfl) (Or.inl ⟨by rfl,?hy⟩) (by assumption) ?_
   case hy=>
    intro w _
    go_simp
    try with_reducible rfl
   try simp only [xga];try simp only [xgs];try simp only [xgz];try simp only [Act.put];try simp only [xsa];try simp only [xss];try simp only [xsz]
   refine wpAnyF_ready (rs:=[11]) (by kernel_rfl) (by simp) ?_
   refine ReadyF.cons rfl (fun K' hK=>?_) ReadyF.nil
   go_simp
   refine hK.out _ _ (.inl (by kernel_rfl)) ?_
   clear hK K'
   try simp only [xga];try simp only [xgs];try simp only [xgz];try simp only [Act.put];try simp only [xsa];try simp only [xss];try simp only [xsz]
   refine wpAnyF_done (by kernel_rfl) ?_ _
   refine NoPanic.normal ?_
   try simp only [xga];try simp only [xgs];try simp only [xgz];try simp only [Act.put];try simp only [xsa];try simp only [xss];try simp only [xsz]
   obtain⟨_,_,X1,r17,t17,n17⟩:=HE5.out
   have hw1:=HT.out.size
   have hwb:=HB0.out
   have R6:Hid (R17 (W5.setCell ⟨b,0,none⟩ (.slice a5 (i+1) cap5)) b X1 (T++[(w1.heap.size,[w1.heap.size])]) (List.replicate (i+1) (Rq.new grain))):=xhd (by rw [List.replicate_succ'];exact r17)
   have T6:=xhd (HT.out.trans t17 fun k hk=> .inr (by have:=HK.out k (blk_mem.2 (.inl hk));omega))
   have K6:Hid (∀k ∈ blk X1 (T++[(w1.heap.size,[w1.heap.size])]),b≤k):=xhd fun k hk=>by
    rcases blk_mem.1 hk with e|⟨x,hx,e⟩
    ·rcases n17 k e with e'|e'
     ·exact HK.out k (blk_mem.2 (.inl e'))
     ·omega
    ·rcases List.mem_append.1 hx with e'|e'
     ·exact HK.out k (blk_mem.2 (.inr ⟨x,e',e⟩))
     ·rw [List.mem_singleton] at e'
      subst e'
      rw [List.mem_singleton] at e
      omega
   clear r17 t17 n17 hw1 hwb HE5 HAP HO4 B4 R4
   go_wp2
   go_roundw
   case rel=>exact⟨i+1,_,_,by have:=HLT.out;omega,by go_num,R6,T6,K6⟩
   case measure=>have:=HLT.out;simp [intOf];omega
  ·have hik:i=m:=by omega
   subst hik
   have i2:¬(i:Int) < i:=by omega
   go_wp2
   go_ret
   rw [HB0.out]
   exact⟨X0,T,rfl,HR.out,HT.out,HK.out⟩
end Go.Proofs.YtfmciiffcmfagaaGreat
