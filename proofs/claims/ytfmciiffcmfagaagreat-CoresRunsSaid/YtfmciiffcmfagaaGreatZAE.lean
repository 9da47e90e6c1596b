/-
  The document's Ready. (Made by gen_rqready.py.)
-/
import Derived.Test.YtfmciiffcmfagaaGreatZAD
import Derived.Test.YtfmciiffcmfagaaGreatZAl
set_option maxRecDepth 100000
set_option maxHeartbeats 25600000
namespace Go.Proofs.YtfmciiffcmfagaaGreat
open Go.RowKit
theorem part3 {w:World} {B:Nat} {x y z:Value} {t:TypeId} (h:w.heap[B]?=some (.cells #[x,y,z] t (0,0))):w.cell? ⟨B,0,none⟩=some x∧w.cell? ⟨B,1,none⟩=some y∧w.cell? ⟨B,2,none⟩=some z:=by
 refine⟨?_,?_,?_⟩<;>simp [World.cell?,h]
theorem ownsRow_up {w:World} {base:Nat} {e:TypeId} {size:Nat} {v:Value} {n:Nat} {xs:List Value} (h:w.ownsRow 0 e size v n xs) (hb:∀g ∈ v.ownBlock.toList,base≤g):w.ownsRow base e size v n xs:=by
 refine⟨h.1,?_⟩
 rcases h.2 with h2|⟨g,cap,cur,rfl,_,h2⟩
 ·exact .inl h2
 ·exact .inr ⟨g,cap,cur,rfl,hb g (by simp [Value.ownBlock]),h2⟩
theorem row_forms {w:World} {base size n:Nat} {e:TypeId} {v:Value} {xs:List Value} (h:w.ownsRow base e size v n xs):(v= .slice none 0 0∧n=0)∨∃g cap,v= .slice (some ⟨g,0,none⟩) n cap∧n≤cap:=by
 rcases h.2 with h0|⟨g,cap,_,hv,_,_,hc,_⟩
 ·exact Or.inl h0
 ·exact Or.inr ⟨g,cap,hv,hc⟩
theorem below_drawn (w:World) (q:Nat):Below w.heap.size w (w.drewN q):=⟨rfl,rfl,rfl,Nat.le_refl _,fun _ _=>rfl⟩
theorem turned_low {b c:World} (h:Turned [] b c) {n:Nat} (hn:n≤b.heap.size):Below n b c:=h.below (by simp) hn
structure RdyI (w V:World) (v:Value) (S:List Tk):Prop where
 row:V.ownsRow w.heap.size tT16 3 v S.length (cellsOf encTk S)
 bel:Below w.heap.size w V
theorem RdyI.later {w V V':World} {v:Value} {S:List Tk} (h:RdyI w V v S) (hb:Below V.heap.size V V'):RdyI w V' v S:=
 ⟨ownsRow_same h.row (fun k _ hl=>hb.block k hl),h.bel.trans (hb.mono h.bel.size)⟩
theorem rready_any {w:World} {b:Nat} {X:List Nat} {q:Rq} (h:R16 w b X q) (hL:q.l.length≤1000):
  Calls Tryz.prog 47 #[.pointer (some ⟨b,0,none⟩)] w fun e w'=>∃v,e= .returned v∧w'.ownsRow w.heap.size tT16 3 v (sortQ q.ready).length (cellsOf encTk (sortQ q.ready))∧Below w.heap.size w w':=by
 obtain⟨a,cap,⟨z0,z1,c2,c3,z4,z5⟩,hmax,hr⟩:=h.rows
 have HR:=xhd hr
 have hbl:b < w.heap.size:=World.block_lt_of_cell? w _ c2
 have HFINAL:=xhd (ready_end q)
 have HON:=xhd (fun (i:Nat) (hi:i < q.l.length) h=>ready_on (q:=q) hi h)
 have HPA:=xhd (fun (i:Nat) (hi:i < q.l.length) h=>ready_past (q:=q) hi h)
 have HLN:=xhd (fun i=>readyTo_len q i)
 obtain⟨ii,hi,hz0,hz1,hz2⟩:=info_parts infoTk
 obtain⟨cur,hcur⟩:∃c,q.cur=c:=⟨_,rfl⟩
 obtain⟨n,hn⟩:∃n,q.l.length=n:=⟨_,rfl⟩
 have HN:=xhd hn
 rw [hn] at c2 hL HFINAL HLN
 rw [hcur] at c3 HON HPA
 have H0:Hid (RdyI w w (.slice none 0 0) (sortQ (readyTo q 0))):=xhd ⟨World.ownsRow_nil _ _ _ _,Below.refl _ _⟩
 have HQ:Hid (∀V,Below w.heap.size w V→V.cell? ⟨b,2,none⟩=some (.slice a n cap)∧V.cell? ⟨b,3,none⟩=some (.int .i64 cur)):=xhd fun V hV=>⟨(hV.cell (p:=⟨b,2,none⟩) hbl).trans c2,(hV.cell (p:=⟨b,3,none⟩) hbl).trans c3⟩
 clear h hr z0 z1 z4 z5 hcur hn c2 c3 hmax
 go_enter Tryz.func47,Tryz.ntmps47
 go_wp2
 go_loopw [3,4] (fun o iv V=>∃i:Nat,i≤n∧iv= .int .i64 i∧Hid (RdyI w V o (sortQ (readyTo q i)))) (fun _ iv _=>n - (intOf iv).toNat)
 case atStart=>exact⟨0,Nat.zero_le _,rfl,H0⟩
 case round=>
  clear H0
  obtain⟨i,hin,rfl,HI0⟩:=hrel
  obtain⟨c2,c3⟩:=HQ.out _ HI0.out.bel
  by_cases hlt:i < n
  ·have hltz:(i:Int) < (n:Int):=by omega
   have hil:i < q.l.length:=by rw [HN.out];exact hlt
   obtain⟨g,rfl,r0,r1,r2⟩:=HR.out i hil
   have hgl:g < w.heap.size:=World.block_lt_of_cell? w _ r0
   have HI:Hid (i < n):=xhd hlt
   replace r0:=(HI0.out.bel.cell (p:=⟨g,i*3,none⟩) hgl).trans r0
   replace r1:=(HI0.out.bel.cell (p:=⟨g,i*3+1,none⟩) hgl).trans r1
   replace r2:=(HI0.out.bel.cell (p:=⟨g,i*3+2,none⟩) hgl).trans r2
   have HO:=HON.out i hil
   have HP:=HPA.out i hil
   have hsl:=HLN.out i
   have hx:∃x:Tk,q.l[i]=x:=⟨_,rfl⟩
   obtain⟨⟨x1,x2,x3⟩,hx⟩:=hx
   rw [hx] at r0 r1 r2 HO HP
   simp only at r0 r1 r2 HO HP
   clear hx
   generalize sortQ (readyTo q i)=S at HI0 HO HP hsl
   have hnl:S.length≤1000:=by omega
   clear hsl
   have HO:=xhd HO
   have HP:=xhd HP
   have hbW:b < wr.heap.size:=Nat.lt_of_lt_of_le hbl HI0.out.bel.size
   have hgW:g < wr.heap.size:=Nat.lt_of_lt_of_le hgl HI0.out.bel.size
   have hbx:Below wr.heap.size wr (wr.alloc (.cells #[.int .i64 x1, .int .u64 x2, .int .i64 x3] 77)):=(Below.refl _ _).alloc (Nat.le_refl _) _
   have HXB':=xhd (heap_alloc_new wr (.cells #[.int .i64 x1, .int .u64 x2, .int .i64 x3] 77))
   have HRB':=xhd (HI0.out.later hbx)
   have HQ3:=xhd (HQ.out _ (HI0.out.later hbx).bel)
   clear hbx
   by_cases hc:x1=cur
   ·have HNX:=xhd (HP.out hc)
    subst hc
    go_wp2_with fail
    generalize wr.alloc (.cells #[.int .i64 x1, .int .u64 x2, .int .i64 x3] 77)=V1 at HXB' HRB' HQ3 ⊢
    clear c2 c3 r0 r1 r2
    obtain⟨c2,c3⟩:=HQ3.out
    obtain⟨x0c,x1c,x2c⟩:=part3 HXB'.out
    go_quiet (fail)
    go_wp2
    go_roundw
    case rel=>exact⟨i+1,by have:=HI.out;omega,by go_num,by rw [HNX.out];exact xhd (HRB'.out.later (below_drawn _ _))⟩
    case measure=>have:=HI.out;simp [intOf];omega
   ·have HNX:=xhd (HO.out hc)
    have ec:(x1 == cur)=false:=by simpa using hc
    rcases row_forms HRB'.out.row with⟨hv,h0⟩ |⟨g2,cap2,hv,hcp⟩
    ·subst hv
     have HM:Hid (S.length=0):=xhd h0
     clear h0 hnl
     go_wp2_with fail
     generalize wr.alloc (.cells #[.int .i64 x1, .int .u64 x2, .int .i64 x3] 77)=V1 at HXB' HRB' HQ3 ⊢
     generalize wr.heap.size=z at HXB' ⊢
     clear c2 c3 r0 r1 r2 hbW hgW
     obtain⟨c2,c3⟩:=HQ3.out
     obtain⟨x0c,x1c,x2c⟩:=part3 HXB'.out
     go_quiet (fail)
     have HRV:=xhd (HRB'.out.later (below_drawn _ nq))
     have HXV:Hid ((V1.drewN nq).heap[z]?=some (.cells #[.int .i64 x1, .int .u64 x2, .int .i64 x3] 77 (0,0))):=HXB'
     clear c2 c3 x0c x1c x2c HRB' HXB' HQ3 ec
     generalize V1.drewN nq=V2 at HRV HXV ⊢
     go_wp2
     go_loopw [6] (fun kk W=>kk= .int .i64 0∧Hid (RdyI w W (.slice none 0 0) S)∧Hid (W.heap[z]?=some (.cells #[.int .i64 x1, .int .u64 x2, .int .i64 x3] 77 (0,0)))) (fun _ _=>0)
     case atStart=>exact⟨rfl,HRV,HXV⟩
     case round=>
      clear HRV HXV V2
      obtain⟨rfl,HRV0,HXV0⟩:=hrel
      obtain⟨x0c,x1c,x2c⟩:=part3 HXV0.out
      go_wp2_with fail
      go_quiet (fail)
      have HRV:=xhd (HRV0.out.later (below_drawn _ nq))
      have HXV:Hid ((wr.drewN nq).heap[z]?=some (.cells #[.int .i64 x1, .int .u64 x2, .int .i64 x3] 77 (0,0))):=HXV0
      have HLT:Hid (∀j (hj:j < S.length),j < 0→ltQ S[j] (x1,x2,x3)=true):=xhd fun j hj h=>by omega
      have HST:Hid (∀hk:0 < S.length,ltQ S[0] (x1,x2,x3)=false):=xhd fun hk=>by have:=HM.out;omega
      clear HRV0 HXV0 x0c x1c x2c
      generalize wr.drewN nq=V2 at HRV HXV ⊢
      obtain⟨x0c,x1c,x2c⟩:=part3 HXV.out
      go_wp2_with (at_builtin;refine wpList_append_any _ rfl (.tmp 67) (.tmp 70) 69 rfl tT16 ii (.agg #[.int .i64 0, .int .u64 0, .int .i64 0]) 3 24 Tryz.underlying69 hi hz0 hz1 hz2 rfl (by decide) (.slice (some ⟨V2.heap.size,0,none⟩) 0 0) 0 [] rfl (ownsRow_empty V2 tT16 3) (none:Option Addr) 0 0 (cellsOf encTk (S.take 0)) rfl (by simp [cellsOf]) (by intro _;exact⟨rfl,rfl⟩) (by intro ad had;cases had) (cells_one encTk_one _) (by unfold maxLen;omega) (by omega) ?_)
      intro a1 cap1 W1 hown1 hgrow1 hnew1
      have T1:Turned [] V2 W1:=Turned.grown ((Turned.refl [] V2).alloc _) hgrow1 (fun k hk=> .inr (by simp [Value.ownBlock] at hk;omega))
      have N1:∀q ∈ (Value.slice a1 (0) cap1).ownBlock.toList,V2.heap.size≤q:=fun q hq=>by
       have h0:=hnew1 q (by simpa using hq)
       (try simp [Value.ownBlock] at h0)
       omega
      have O1:W1.ownsRow 0 tT16 3 (.slice a1 (0) cap1) (0) (cellsOf encTk (S.take 0)):=by simpa using hown1
      have HX1:=xhd (T1.same HXV.out (by simp))
      obtain⟨y0,y1,y2⟩:=part3 HX1.out
      have HO1:=xhd O1
      have HN1:=xhd N1
      have HT1:=xhd T1
      clear hown1 hgrow1 hnew1 T1 N1 O1 x0c x1c x2c
      go_wp2_with (at_builtin;refine wpList_append_any _ rfl (.tmp 72) (.tmp 74) 69 rfl tT16 ii (.agg #[.int .i64 0, .int .u64 0, .int .i64 0]) 3 24 Tryz.underlying69 hi hz0 hz1 hz2 rfl (by decide) (.slice a1 (0) cap1) (0) _ rfl (HO1.out.alloc _) (some ⟨W1.heap.size,0,none⟩) 1 1 [.int .i64 x1, .int .u64 x2, .int .i64 x3] rfl rfl (by intro h;cases h) (by intro ad had;cases had;exact three_new _ _ _ _ _) (by intro u hu;simp at hu;rcases hu with rfl|rfl|rfl<;>rfl) (by unfold maxLen;omega) (by omega) ?_)
      intro a2 cp2 W2 hown2 hgrow2 hnew2
      have T2:Turned [] V2 W2:=Turned.grown (HT1.out.alloc _) hgrow2 (fun q hq=> .inr (HN1.out q (by rw [Option.mem_toList];exact hq)))
      have N2:∀q ∈ (Value.slice a2 (1) cp2).ownBlock.toList,V2.heap.size≤q:=fun q hq=>by
       have h0:=hnew2 q (by simpa using hq)
       rcases h0 with h|h
       ·exact HN1.out q (by simpa using h)
       ·have:=HT1.out.size
        (try simp at h)
        omega
      have O2:W2.ownsRow 0 tT16 3 (.slice a2 (1) cp2) (1) (cellsOf encTk (S.take 0)++[.int .i64 x1, .int .u64 x2, .int .i64 x3]):=by simpa using hown2
      have HO2:=xhd O2
      have HT2:=xhd T2
      have HN2:=xhd N2
      clear hown2 hgrow2 hnew2 T2 N2 O2 y0 y1 y2
      go_wp2_with (at_builtin;refine wpList_append_any _ rfl (.tmp 76) (.tmp 79) 69 rfl tT16 ii (.agg #[.int .i64 0, .int .u64 0, .int .i64 0]) 3 24 Tryz.underlying69 hi hz0 hz1 hz2 rfl (by decide) (.slice a2 (1) cp2) (1) _ rfl HO2.out (none:Option Addr) 0 0 (cellsOf encTk (S.drop 0)) rfl (by rw [List.drop_zero,List.eq_nil_of_length_eq_zero HM.out];rfl) (by intro _;exact⟨rfl,rfl⟩) (by intro ad had;cases had) (cells_one encTk_one _) (by unfold maxLen;omega) (by omega) ?_;intro a3 cp3 W3 hown3 hgrow3 hnew3;have HH3:=xhd (And.intro hown3 (And.intro hgrow3 hnew3));clear hown3 hgrow3 hnew3)
      obtain⟨hown3,hgrow3,hnew3⟩:=HH3.out
      clear HH3
      have T3:Turned [] V2 W3:=Turned.grown HT2.out hgrow3 (fun q hq=> .inr (HN2.out q (by rw [Option.mem_toList];exact hq)))
      have N3:∀q ∈ (Value.slice a3 (1) cp3).ownBlock.toList,V2.heap.size≤q:=fun q hq=>by
       have h0:=hnew3 q (by simpa using hq)
       rcases h0 with h|h
       ·exact HN2.out q (by simpa using h)
       ·have:=HT2.out.size
        (try simp at h)
        omega
      have O3:W3.ownsRow 0 tT16 3 (.slice a3 (1) cp3) (1) (cellsOf encTk (S.take 0)++[.int .i64 x1, .int .u64 x2, .int .i64 x3]++cellsOf encTk (S.drop 0)):=by simpa using hown3
      have HFIN:Hid (RdyI w W3 (.slice a3 (1) cp3) (sortQ (readyTo q (i+1)))):=xhd (by
       have hins:=ins_at (x:=(x1,x2,x3)) (l:=S) (k:=0) (by rw [HM.out];omega) HLT.out HST.out
       have hlen:(insQ (x1,x2,x3) S).length=1:=by
        rw [len_ins,HM.out]
        skip
       rw [HNX.out]
       refine⟨?_,HRV.out.bel.trans (turned_low T3 HRV.out.bel.size)⟩
       rw [hlen,hins]
       have he:cellsOf encTk (S.take 0++(x1,x2,x3)::S.drop 0)=cellsOf encTk (S.take 0)++[.int .i64 x1, .int .u64 x2, .int .i64 x3]++cellsOf encTk (S.drop 0):=by
        simp [cellsOf]
       rw [he]
       exact ownsRow_up O3 (fun g hg=>Nat.le_trans HRV.out.bel.size (N3 g hg)))
      clear hown3 hgrow3 hnew3 T3 N3 O3
      go_wp2
      go_roundw
      case rel=>exact⟨i+1,by have:=HI.out;omega,by go_num,HFIN⟩
      case measure=>have:=HI.out;simp [intOf];omega
    ·obtain⟨m,hm⟩:∃m,S.length=m:=⟨_,rfl⟩
     have HM:=xhd hm
     rw [hm] at hv hcp hnl
     subst hv
     clear hm
     go_wp2_with fail
     generalize wr.alloc (.cells #[.int .i64 x1, .int .u64 x2, .int .i64 x3] 77)=V1 at HXB' HRB' HQ3 ⊢
     generalize wr.heap.size=z at HXB' ⊢
     clear c2 c3 r0 r1 r2 hbW hgW
     obtain⟨c2,c3⟩:=HQ3.out
     obtain⟨x0c,x1c,x2c⟩:=part3 HXB'.out
     go_quiet (fail)
     have HRV:=xhd (HRB'.out.later (below_drawn _ nq))
     have HXV:Hid ((V1.drewN nq).heap[z]?=some (.cells #[.int .i64 x1, .int .u64 x2, .int .i64 x3] 77 (0,0))):=HXB'
     clear c2 c3 x0c x1c x2c HRB' HXB' HQ3 ec
     generalize V1.drewN nq=V2 at HRV HXV ⊢
     go_wp2
     go_loopw [6] (fun kk W=>∃k:Nat,k≤m∧kk= .int .i64 k∧Hid (∀j (hj:j < S.length),j < k→ltQ S[j] (x1,x2,x3)=true)∧Hid (RdyI w W (.slice (some ⟨g2,0,none⟩) m cap2) S)∧Hid (W.heap[z]?=some (.cells #[.int .i64 x1, .int .u64 x2, .int .i64 x3] 77 (0,0)))) (fun kk _=>m - (intOf kk).toNat)
     case atStart=>exact⟨0,Nat.zero_le _,rfl,xhd fun j hj h=>by omega,HRV,HXV⟩
     case round=>
      clear HRV HXV V2
      obtain⟨k,hkm,rfl,HLT,HRV0,HXV0⟩:=hrel
      obtain⟨x0c,x1c,x2c⟩:=part3 HXV0.out
      have k0:(0:Int)≤k:=by omega
      have k1:(k:Int)≤m:=by omega
      have k2:k≤cap2:=by omega
      have n6:m≤cap2:=hcp
      by_cases hkl:k < m
      ·have hklz:(k:Int) < (m:Int):=by omega
       have hks:k < S.length:=by rw [HM.out];exact hkl
       have rr:=row_cells encTk_len (ownsRow_base HRV0.out.row (Nat.zero_le _)) hks
       have s0:=(rr 0 (by omega)).1
       have s1:=(rr 1 (by omega)).1
       simp only [encTk,List.getElem?_cons_zero,List.getElem?_cons_succ,Nat.add_zero] at s0 s1
       have hy:∃y:Tk,S[k]=y:=⟨_,rfl⟩
       obtain⟨⟨y1,y2,y3⟩,hy⟩:=hy
       rw [hy] at s0 s1
       simp only at s0 s1
       have HY:=xhd hy
       clear hy rr
       by_cases hA:y2 < x2
       ·have HUP:Hid (ltQ (y1,y2,y3) (x1,x2,x3)=true):=xhd (ltQ_iff.2 (.inl hA))
        go_wp2_with fail
        go_big_quiet (fail)
        have HRV:=xhd (HRV0.out.later (below_drawn _ nq))
        have HXV:Hid ((wr.drewN nq).heap[z]?=some (.cells #[.int .i64 x1, .int .u64 x2, .int .i64 x3] 77 (0,0))):=HXV0
        go_wp2
        go_roundw
        case rel=>exact⟨k+1,by omega,by go_num,xhd fun j hj hjk=>(by
         rcases Nat.lt_or_ge j k with h|h
         ·exact HLT.out j hj h
         ·obtain rfl:j=k:=by omega
          rw [HY.out];exact HUP.out),HRV,HXV⟩
        case measure=>simp [intOf];omega
       ·by_cases hB:y2=x2
        ·by_cases hC:y1 < x1
         ·have HUP:Hid (ltQ (y1,y2,y3) (x1,x2,x3)=true):=xhd (ltQ_iff.2 (.inr ⟨hB,hC⟩))
          obtain rfl:x2=y2:=hB.symm
          have dC:decide (y1 < x1)=true:=by simpa using hC
          go_wp2_with fail
          go_big_quiet (fail)
          have HRV:=xhd (HRV0.out.later (below_drawn _ nq))
          have HXV:Hid ((wr.drewN nq).heap[z]?=some (.cells #[.int .i64 x1, .int .u64 x2, .int .i64 x3] 77 (0,0))):=HXV0
          go_wp2
          go_roundw
          case rel=>exact⟨k+1,by omega,by go_num,xhd fun j hj hjk=>(by
           rcases Nat.lt_or_ge j k with h|h
           ·exact HLT.out j hj h
           ·obtain rfl:j=k:=by omega
            rw [HY.out];exact HUP.out),HRV,HXV⟩
          case measure=>simp [intOf];omega
         ·have HDN:Hid (ltQ (y1,y2,y3) (x1,x2,x3)=false):=xhd (ltQ_not.2 (.inr ⟨hB,by simp only;omega⟩))
          obtain rfl:x2=y2:=hB.symm
          have dC:decide (y1 < x1)=false:=by simpa using hC
          go_wp2_with fail
          go_big_quiet (fail)
          have HRV:=xhd (HRV0.out.later (below_drawn _ nq))
          have HXV:Hid ((wr.drewN nq).heap[z]?=some (.cells #[.int .i64 x1, .int .u64 x2, .int .i64 x3] 77 (0,0))):=HXV0
          have HST:Hid (∀hk:k < S.length,ltQ S[k] (x1,x2,x3)=false):=xhd fun hk=>(by rw [HY.out];exact HDN.out)
          clear HRV0 HXV0 x0c x1c x2c s0 s1
          generalize wr.drewN nq=V2 at HRV HXV ⊢
          have HR0:=xhd (ownsRow_base HRV.out.row (Nat.zero_le _))
          rw [HM.out] at HR0
          obtain⟨x0c,x1c,x2c⟩:=part3 HXV.out
          go_wp2_with (at_builtin;refine wpList_append_any _ rfl (.tmp 67) (.tmp 70) 69 rfl tT16 ii (.agg #[.int .i64 0, .int .u64 0, .int .i64 0]) 3 24 Tryz.underlying69 hi hz0 hz1 hz2 rfl (by decide) (.slice (some ⟨V2.heap.size,0,none⟩) 0 0) 0 [] rfl (ownsRow_empty V2 tT16 3) (some ⟨g2,0,none⟩) k cap2 (cellsOf encTk (S.take k)) rfl (by rw [cellsOf_len encTk_len,List.length_take,Nat.min_eq_left (by have:=HM.out;omega)]) (by intro h;cases h) (by intro ad had;cases had;exact cells_take encTk_len HR0.out ((Turned.refl [] V2).alloc _) k) (cells_one encTk_one _) (by unfold maxLen;omega) (by omega) ?_)
          intro a1 cap1 W1 hown1 hgrow1 hnew1
          have T1:Turned [] V2 W1:=Turned.grown ((Turned.refl [] V2).alloc _) hgrow1 (fun k hk=> .inr (by simp [Value.ownBlock] at hk;omega))
          have N1:∀q ∈ (Value.slice a1 (k) cap1).ownBlock.toList,V2.heap.size≤q:=fun q hq=>by
           have h0:=hnew1 q (by simpa using hq)
           (try simp [Value.ownBlock] at h0)
           omega
          have O1:W1.ownsRow 0 tT16 3 (.slice a1 (k) cap1) (k) (cellsOf encTk (S.take k)):=by simpa using hown1
          have HX1:=xhd (T1.same HXV.out (by simp))
          obtain⟨y0,y1,y2⟩:=part3 HX1.out
          have HO1:=xhd O1
          have HN1:=xhd N1
          have HT1:=xhd T1
          clear hown1 hgrow1 hnew1 T1 N1 O1 x0c x1c x2c
          go_wp2_with (at_builtin;refine wpList_append_any _ rfl (.tmp 72) (.tmp 74) 69 rfl tT16 ii (.agg #[.int .i64 0, .int .u64 0, .int .i64 0]) 3 24 Tryz.underlying69 hi hz0 hz1 hz2 rfl (by decide) (.slice a1 (k) cap1) (k) _ rfl (HO1.out.alloc _) (some ⟨W1.heap.size,0,none⟩) 1 1 [.int .i64 x1, .int .u64 x2, .int .i64 x3] rfl rfl (by intro h;cases h) (by intro ad had;cases had;exact three_new _ _ _ _ _) (by intro u hu;simp at hu;rcases hu with rfl|rfl|rfl<;>rfl) (by unfold maxLen;omega) (by omega) ?_)
          intro a2 cp2 W2 hown2 hgrow2 hnew2
          have T2:Turned [] V2 W2:=Turned.grown (HT1.out.alloc _) hgrow2 (fun q hq=> .inr (HN1.out q (by rw [Option.mem_toList];exact hq)))
          have N2:∀q ∈ (Value.slice a2 (k+1) cp2).ownBlock.toList,V2.heap.size≤q:=fun q hq=>by
           have h0:=hnew2 q (by simpa using hq)
           rcases h0 with h|h
           ·exact HN1.out q (by simpa using h)
           ·have:=HT1.out.size
            (try simp at h)
            omega
          have O2:W2.ownsRow 0 tT16 3 (.slice a2 (k+1) cp2) (k+1) (cellsOf encTk (S.take k)++[.int .i64 x1, .int .u64 x2, .int .i64 x3]):=by simpa using hown2
          have HO2:=xhd O2
          have HT2:=xhd T2
          have HN2:=xhd N2
          clear hown2 hgrow2 hnew2 T2 N2 O2 y0 y1 y2
          go_wp2_with (at_builtin;refine wpList_append_any _ rfl (.tmp 76) (.tmp 79) 69 rfl tT16 ii (.agg #[.int .i64 0, .int .u64 0, .int .i64 0]) 3 24 Tryz.underlying69 hi hz0 hz1 hz2 rfl (by decide) (.slice a2 (k+1) cp2) (k+1) _ rfl HO2.out (some ⟨g2,k*3,none⟩) (m - k) (cap2 - k) (cellsOf encTk (S.drop k)) rfl (by rw [cellsOf_len encTk_len,List.length_drop,HM.out]) (by intro h;cases h) (by intro ad had;cases had;exact cells_drop encTk_len HR0.out HT2.out k) (cells_one encTk_one _) (by unfold maxLen;omega) (by omega) ?_;intro a3 cp3 W3 hown3 hgrow3 hnew3;have HH3:=xhd (And.intro hown3 (And.intro hgrow3 hnew3));clear hown3 hgrow3 hnew3)
          obtain⟨hown3,hgrow3,hnew3⟩:=HH3.out
          clear HH3
          have T3:Turned [] V2 W3:=Turned.grown HT2.out hgrow3 (fun q hq=> .inr (HN2.out q (by rw [Option.mem_toList];exact hq)))
          have N3:∀q ∈ (Value.slice a3 (k+1+(m - k)) cp3).ownBlock.toList,V2.heap.size≤q:=fun q hq=>by
           have h0:=hnew3 q (by simpa using hq)
           rcases h0 with h|h
           ·exact HN2.out q (by simpa using h)
           ·have:=HT2.out.size
            (try simp at h)
            omega
          have O3:W3.ownsRow 0 tT16 3 (.slice a3 (k+1+(m - k)) cp3) (k+1+(m - k)) (cellsOf encTk (S.take k)++[.int .i64 x1, .int .u64 x2, .int .i64 x3]++cellsOf encTk (S.drop k)):=by simpa using hown3
          have HFIN:Hid (RdyI w W3 (.slice a3 (k+1+(m - k)) cp3) (sortQ (readyTo q (i+1)))):=xhd (by
           have hins:=ins_at (x:=(x1,x2,x3)) (l:=S) (k:=k) (by rw [HM.out];omega) HLT.out HST.out
           have hlen:(insQ (x1,x2,x3) S).length=k+1+(m - k):=by
            rw [len_ins,HM.out]
            omega
           rw [HNX.out]
           refine⟨?_,HRV.out.bel.trans (turned_low T3 HRV.out.bel.size)⟩
           rw [hlen,hins]
           have he:cellsOf encTk (S.take k++(x1,x2,x3)::S.drop k)=cellsOf encTk (S.take k)++[.int .i64 x1, .int .u64 x2, .int .i64 x3]++cellsOf encTk (S.drop k):=by
            simp [cellsOf]
           rw [he]
           exact ownsRow_up O3 (fun g hg=>Nat.le_trans HRV.out.bel.size (N3 g hg)))
          clear hown3 hgrow3 hnew3 T3 N3 O3
          go_wp2
          go_roundw
          case rel=>exact⟨i+1,by have:=HI.out;omega,by go_num,HFIN⟩
          case measure=>have:=HI.out;simp [intOf];omega
        ·have HDN:Hid (ltQ (y1,y2,y3) (x1,x2,x3)=false):=xhd (ltQ_not.2 (.inl (by simp only;omega)))
         have eB:(y2 == x2)=false:=by simpa using hB
         have dA:decide (y2 < x2)=false:=by simpa using hA
         go_wp2_with fail
         go_big_quiet (fail)
         have HRV:=xhd (HRV0.out.later (below_drawn _ nq))
         have HXV:Hid ((wr.drewN nq).heap[z]?=some (.cells #[.int .i64 x1, .int .u64 x2, .int .i64 x3] 77 (0,0))):=HXV0
         have HST:Hid (∀hk:k < S.length,ltQ S[k] (x1,x2,x3)=false):=xhd fun hk=>(by rw [HY.out];exact HDN.out)
         clear HRV0 HXV0 x0c x1c x2c s0 s1
         generalize wr.drewN nq=V2 at HRV HXV ⊢
         have HR0:=xhd (ownsRow_base HRV.out.row (Nat.zero_le _))
         rw [HM.out] at HR0
         obtain⟨x0c,x1c,x2c⟩:=part3 HXV.out
         go_wp2_with (at_builtin;refine wpList_append_any _ rfl (.tmp 67) (.tmp 70) 69 rfl tT16 ii (.agg #[.int .i64 0, .int .u64 0, .int .i64 0]) 3 24 Tryz.underlying69 hi hz0 hz1 hz2 rfl (by decide) (.slice (some ⟨V2.heap.size,0,none⟩) 0 0) 0 [] rfl (ownsRow_empty V2 tT16 3) (some ⟨g2,0,none⟩) k cap2 (cellsOf encTk (S.take k)) rfl (by rw [cellsOf_len encTk_len,List.length_take,Nat.min_eq_left (by have:=HM.out;omega)]) (by intro h;cases h) (by intro ad had;cases had;exact cells_take encTk_len HR0.out ((Turned.refl [] V2).alloc _) k) (cells_one encTk_one _) (by unfold maxLen;omega) (by omega) ?_)
         intro a1 cap1 W1 hown1 hgrow1 hnew1
         have T1:Turned [] V2 W1:=Turned.grown ((Turned.refl [] V2).alloc _) hgrow1 (fun k hk=> .inr (by simp [Value.ownBlock] at hk;omega))
         have N1:∀q ∈ (Value.slice a1 (k) cap1).ownBlock.toList,V2.heap.size≤q:=fun q hq=>by
          have h0:=hnew1 q (by simpa using hq)
          (try simp [Value.ownBlock] at h0)
          omega
         have O1:W1.ownsRow 0 tT16 3 (.slice a1 (k) cap1) (k) (cellsOf encTk (S.take k)):=by simpa using hown1
         have HX1:=xhd (T1.same HXV.out (by simp))
         obtain⟨y0,y1,y2⟩:=part3 HX1.out
         have HO1:=xhd O1
         have HN1:=xhd N1
         have HT1:=xhd T1
         clear hown1 hgrow1 hnew1 T1 N1 O1 x0c x1c x2c
         go_wp2_with (at_builtin;refine wpList_append_any _ rfl (.tmp 72) (.tmp 74) 69 rfl tT16 ii (.agg #[.int .i64 0, .int .u64 0, .int .i64 0]) 3 24 Tryz.underlying69 hi hz0 hz1 hz2 rfl (by decide) (.slice a1 (k) cap1) (k) _ rfl (HO1.out.alloc _) (some ⟨W1.heap.size,0,none⟩) 1 1 [.int .i64 x1, .int .u64 x2, .int .i64 x3] rfl rfl (by intro h;cases h) (by intro ad had;cases had;exact three_new _ _ _ _ _) (by intro u hu;simp at hu;rcases hu with rfl|rfl|rfl<;>rfl) (by unfold maxLen;omega) (by omega) ?_)
         intro a2 cp2 W2 hown2 hgrow2 hnew2
         have T2:Turned [] V2 W2:=Turned.grown (HT1.out.alloc _) hgrow2 (fun q hq=> .inr (HN1.out q (by rw [Option.mem_toList];exact hq)))
         have N2:∀q ∈ (Value.slice a2 (k+1) cp2).ownBlock.toList,V2.heap.size≤q:=fun q hq=>by
          have h0:=hnew2 q (by simpa using hq)
          rcases h0 with h|h
          ·exact HN1.out q (by simpa using h)
          ·have:=HT1.out.size
           (try simp at h)
           omega
         have O2:W2.ownsRow 0 tT16 3 (.slice a2 (k+1) cp2) (k+1) (cellsOf encTk (S.take k)++[.int .i64 x1, .int .u64 x2, .int .i64 x3]):=by simpa using hown2
         have HO2:=xhd O2
         have HT2:=xhd T2
         have HN2:=xhd N2
         clear hown2 hgrow2 hnew2 T2 N2 O2 y0 y1 y2
         go_wp2_with (at_builtin;refine wpList_append_any _ rfl (.tmp 76) (.tmp 79) 69 rfl tT16 ii (.agg #[.int .i64 0, .int .u64 0, .int .i64 0]) 3 24 Tryz.underlying69 hi hz0 hz1 hz2 rfl (by decide) (.slice a2 (k+1) cp2) (k+1) _ rfl HO2.out (some ⟨g2,k*3,none⟩) (m - k) (cap2 - k) (cellsOf encTk (S.drop k)) rfl (by rw [cellsOf_len encTk_len,List.length_drop,HM.out]) (by intro h;cases h) (by intro ad had;cases had;exact cells_drop encTk_len HR0.out HT2.out k) (cells_one encTk_one _) (by unfold maxLen;omega) (by omega) ?_;intro a3 cp3 W3 hown3 hgrow3 hnew3;have HH3:=xhd (And.intro hown3 (And.intro hgrow3 hnew3));clear hown3 hgrow3 hnew3)
         obtain⟨hown3,hgrow3,hnew3⟩:=HH3.out
         clear HH3
         have T3:Turned [] V2 W3:=Turned.grown HT2.out hgrow3 (fun q hq=> .inr (HN2.out q (by rw [Option.mem_toList];exact hq)))
         have N3:∀q ∈ (Value.slice a3 (k+1+(m - k)) cp3).ownBlock.toList,V2.heap.size≤q:=fun q hq=>by
          have h0:=hnew3 q (by simpa using hq)
          rcases h0 with h|h
          ·exact HN2.out q (by simpa using h)
          ·have:=HT2.out.size
           (try simp at h)
           omega
         have O3:W3.ownsRow 0 tT16 3 (.slice a3 (k+1+(m - k)) cp3) (k+1+(m - k)) (cellsOf encTk (S.take k)++[.int .i64 x1, .int .u64 x2, .int .i64 x3]++cellsOf encTk (S.drop k)):=by simpa using hown3
         have HFIN:Hid (RdyI w W3 (.slice a3 (k+1+(m - k)) cp3) (sortQ (readyTo q (i+1)))):=xhd (by
          have hins:=ins_at (x:=(x1,x2,x3)) (l:=S) (k:=k) (by rw [HM.out];omega) HLT.out HST.out
          have hlen:(insQ (x1,x2,x3) S).length=k+1+(m - k):=by
           rw [len_ins,HM.out]
           omega
          rw [HNX.out]
          refine⟨?_,HRV.out.bel.trans (turned_low T3 HRV.out.bel.size)⟩
          rw [hlen,hins]
          have he:cellsOf encTk (S.take k++(x1,x2,x3)::S.drop k)=cellsOf encTk (S.take k)++[.int .i64 x1, .int .u64 x2, .int .i64 x3]++cellsOf encTk (S.drop k):=by
           simp [cellsOf]
          rw [he]
          exact ownsRow_up O3 (fun g hg=>Nat.le_trans HRV.out.bel.size (N3 g hg)))
         clear hown3 hgrow3 hnew3 T3 N3 O3
         go_wp2
         go_roundw
         case rel=>exact⟨i+1,by have:=HI.out;omega,by go_num,HFIN⟩
         case measure=>have:=HI.out;simp [intOf];omega
      ·have HST:Hid (∀hk:k < S.length,ltQ S[k] (x1,x2,x3)=false):=xhd fun hk=>by have:=HM.out;omega
       have dk:decide ((k:Int) < (m:Int))=false:=by simp;omega
       have dk2:decide (k < m)=false:=by simp;omega
       go_wp2_with fail
       go_big_quiet (fail)
       have HRV:=xhd (HRV0.out.later (below_drawn _ nq))
       have HXV:Hid ((wr.drewN nq).heap[z]?=some (.cells #[.int .i64 x1, .int .u64 x2, .int .i64 x3] 77 (0,0))):=HXV0
       clear HRV0 HXV0 x0c x1c x2c
       generalize wr.drewN nq=V2 at HRV HXV ⊢
       have HR0:=xhd (ownsRow_base HRV.out.row (Nat.zero_le _))
       rw [HM.out] at HR0
       obtain⟨x0c,x1c,x2c⟩:=part3 HXV.out
       go_wp2_with (at_builtin;refine wpList_append_any _ rfl (.tmp 67) (.tmp 70) 69 rfl tT16 ii (.agg #[.int .i64 0, .int .u64 0, .int .i64 0]) 3 24 Tryz.underlying69 hi hz0 hz1 hz2 rfl (by decide) (.slice (some ⟨V2.heap.size,0,none⟩) 0 0) 0 [] rfl (ownsRow_empty V2 tT16 3) (some ⟨g2,0,none⟩) k cap2 (cellsOf encTk (S.take k)) rfl (by rw [cellsOf_len encTk_len,List.length_take,Nat.min_eq_left (by have:=HM.out;omega)]) (by intro h;cases h) (by intro ad had;cases had;exact cells_take encTk_len HR0.out ((Turned.refl [] V2).alloc _) k) (cells_one encTk_one _) (by unfold maxLen;omega) (by omega) ?_)
       intro a1 cap1 W1 hown1 hgrow1 hnew1
       have T1:Turned [] V2 W1:=Turned.grown ((Turned.refl [] V2).alloc _) hgrow1 (fun k hk=> .inr (by simp [Value.ownBlock] at hk;omega))
       have N1:∀q ∈ (Value.slice a1 (k) cap1).ownBlock.toList,V2.heap.size≤q:=fun q hq=>by
        have h0:=hnew1 q (by simpa using hq)
        (try simp [Value.ownBlock] at h0)
        omega
       have O1:W1.ownsRow 0 tT16 3 (.slice a1 (k) cap1) (k) (cellsOf encTk (S.take k)):=by simpa using hown1
       have HX1:=xhd (T1.same HXV.out (by simp))
       obtain⟨y0,y1,y2⟩:=part3 HX1.out
       have HO1:=xhd O1
       have HN1:=xhd N1
       have HT1:=xhd T1
       clear hown1 hgrow1 hnew1 T1 N1 O1 x0c x1c x2c
       go_wp2_with (at_builtin;refine wpList_append_any _ rfl (.tmp 72) (.tmp 74) 69 rfl tT16 ii (.agg #[.int .i64 0, .int .u64 0, .int .i64 0]) 3 24 Tryz.underlying69 hi hz0 hz1 hz2 rfl (by decide) (.slice a1 (k) cap1) (k) _ rfl (HO1.out.alloc _) (some ⟨W1.heap.size,0,none⟩) 1 1 [.int .i64 x1, .int .u64 x2, .int .i64 x3] rfl rfl (by intro h;cases h) (by intro ad had;cases had;exact three_new _ _ _ _ _) (by intro u hu;simp at hu;rcases hu with rfl|rfl|rfl<;>rfl) (by unfold maxLen;omega) (by omega) ?_)
       intro a2 cp2 W2 hown2 hgrow2 hnew2
       have T2:Turned [] V2 W2:=Turned.grown (HT1.out.alloc _) hgrow2 (fun q hq=> .inr (HN1.out q (by rw [Option.mem_toList];exact hq)))
       have N2:∀q ∈ (Value.slice a2 (k+1) cp2).ownBlock.toList,V2.heap.size≤q:=fun q hq=>by
        have h0:=hnew2 q (by simpa using hq)
        rcases h0 with h|h
        ·exact HN1.out q (by simpa using h)
        ·have:=HT1.out.size
         (try simp at h)
         omega
       have O2:W2.ownsRow 0 tT16 3 (.slice a2 (k+1) cp2) (k+1) (cellsOf encTk (S.take k)++[.int .i64 x1, .int .u64 x2, .int .i64 x3]):=by simpa using hown2
       have HO2:=xhd O2
       have HT2:=xhd T2
       have HN2:=xhd N2
       clear hown2 hgrow2 hnew2 T2 N2 O2 y0 y1 y2
       go_wp2_with (at_builtin;refine wpList_append_any _ rfl (.tmp 76) (.tmp 79) 69 rfl tT16 ii (.agg #[.int .i64 0, .int .u64 0, .int .i64 0]) 3 24 Tryz.underlying69 hi hz0 hz1 hz2 rfl (by decide) (.slice a2 (k+1) cp2) (k+1) _ rfl HO2.out (if cap2=k then some ⟨g2,0,none⟩ else some ⟨g2,k*3,none⟩) (m - k) (cap2 - k) (cellsOf encTk (S.drop k)) rfl (by rw [cellsOf_len encTk_len,List.length_drop,HM.out]) (by intro h;split at h<;>cases h) (cells_tail encTk_len HR0.out HT2.out k (by rw [HM.out];exact n6)) (cells_one encTk_one _) (by unfold maxLen;omega) (by omega) ?_;intro a3 cp3 W3 hown3 hgrow3 hnew3;have HH3:=xhd (And.intro hown3 (And.intro hgrow3 hnew3));clear hown3 hgrow3 hnew3)
       obtain⟨hown3,hgrow3,hnew3⟩:=HH3.out
       clear HH3
       have T3:Turned [] V2 W3:=Turned.grown HT2.out hgrow3 (fun q hq=> .inr (HN2.out q (by rw [Option.mem_toList];exact hq)))
       have N3:∀q ∈ (Value.slice a3 (k+1+(m - k)) cp3).ownBlock.toList,V2.heap.size≤q:=fun q hq=>by
        have h0:=hnew3 q (by simpa using hq)
        rcases h0 with h|h
        ·exact HN2.out q (by simpa using h)
        ·have:=HT2.out.size
         (try simp at h)
         omega
       have O3:W3.ownsRow 0 tT16 3 (.slice a3 (k+1+(m - k)) cp3) (k+1+(m - k)) (cellsOf encTk (S.take k)++[.int .i64 x1, .int .u64 x2, .int .i64 x3]++cellsOf encTk (S.drop k)):=by simpa using hown3
       have HFIN:Hid (RdyI w W3 (.slice a3 (k+1+(m - k)) cp3) (sortQ (readyTo q (i+1)))):=xhd (by
        have hins:=ins_at (x:=(x1,x2,x3)) (l:=S) (k:=k) (by rw [HM.out];omega) HLT.out HST.out
        have hlen:(insQ (x1,x2,x3) S).length=k+1+(m - k):=by
         rw [len_ins,HM.out]
         omega
        rw [HNX.out]
        refine⟨?_,HRV.out.bel.trans (turned_low T3 HRV.out.bel.size)⟩
        rw [hlen,hins]
        have he:cellsOf encTk (S.take k++(x1,x2,x3)::S.drop k)=cellsOf encTk (S.take k)++[.int .i64 x1, .int .u64 x2, .int .i64 x3]++cellsOf encTk (S.drop k):=by
         simp [cellsOf]
        rw [he]
        exact ownsRow_up O3 (fun g hg=>Nat.le_trans HRV.out.bel.size (N3 g hg)))
       clear hown3 hgrow3 hnew3 T3 N3 O3
       go_wp2
       go_roundw
       case rel=>exact⟨i+1,by have:=HI.out;omega,by go_num,HFIN⟩
       case measure=>have:=HI.out;simp [intOf];omega
  ·obtain rfl:i=n:=by omega
   have HB:=xhd HI0
   go_wp2
   go_ret
   refine⟨_,rfl,?_⟩
   have:=HI0.out
   rw [HFINAL.out] at this
   exact⟨this.row,this.bel⟩
end Go.Proofs.YtfmciiffcmfagaaGreat
