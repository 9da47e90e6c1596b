/-
  The document's Scan, plainly: what holds at each place. No program of its own.
  The document's Scan. (Made by gen_ref.py.)
-/
import Derived.Test.YtbnhnnccioljhaaGreatDoorZAA
import Derived.Test.YtbnhnnccioljhaaGreatDoorZAP
import Derived.Test.YtbnhnnccioljhaaGreatDoorZAl
set_option maxRecDepth 100000
set_option maxHeartbeats 25600000
namespace Go.Proofs.YtbnhnnccioljhaaGreatDoor
structure RefSt (L:List By) (k:Nat) (q:Int) (ws:List Wd):Prop where
 le:k≤L.length
 qk:q≤k
 has:0≤q→ws≠[]
 len:ws.length≤k
 eq:scanR L 0 false=prepR ws (scanR (L.drop k) k (decide (q=(k:Int))&&lastB ws))
theorem RefSt.start (L:List By):RefSt L 0 (-1) []:=⟨Nat.zero_le _,by omega,fun h=>by omega,Nat.le_refl _,by rw [prepR_nil,List.drop_zero,lastB_nil,Bool.and_false]⟩
theorem drop_more {L:List By} {k:Nat} {c:By} {t:List By} (e:L.drop k=c::t) (m:Nat):L.drop (k+1+m)=t.drop m:=by
 rw [Nat.add_assoc, ←List.drop_drop,e,Nat.add_comm 1 m,List.drop_succ_cons]
theorem drop_lt {L:List By} {k:Nat} {c:By} {t:List By} (e:L.drop k=c::t):k+1+t.length=L.length:=by
 have:=congrArg List.length e
 rw [List.length_drop,List.length_cons] at this
 omega
theorem RefSt.blank {L:List By} {k:Nat} {q:Int} {ws:List Wd} (h:RefSt L k q ws) {c:By} {t:List By} (e:L.drop k=c::t) (hb:isBl c=true):RefSt L (k+1) q ws:=by
 have hl:=drop_lt e
 refine⟨by omega,by have:=h.qk;omega,h.has,by have:=h.len;omega,?_⟩
 rw [h.eq,e,scan_blank hb,show L.drop (k+1)=t by have:=drop_more e 0;simpa using this]
 have:decide (q=((k+1:Nat):Int))=false:=by
  have:=h.qk
  simp
  omega
 rw [this,Bool.false_and]
theorem RefSt.remark {L:List By} {k:Nat} {q:Int} {ws:List Wd} (h:RefSt L k q ws) {c:By} {t:List By} (e:L.drop k=c::t) (hb:isBl c=false) (h35:c.toNat=35) {T:Nat} (hT:T=k+1+(t.takeWhile not10).length):RefSt L T q ws:=by
 subst hT
 have hl:=drop_lt e
 have hle:=(List.takeWhile_sublist (l:=t) not10).length_le
 refine⟨by omega,by have:=h.qk;omega,h.has,by have:=h.len;omega,?_⟩
 rw [h.eq,e,scan_remark hb h35,drop_more e,drop_take_len]
 have:decide (q=((k+1+(t.takeWhile not10).length:Nat):Int))=false:=by
  have:=h.qk
  simp
  omega
 rw [this,Bool.false_and]
theorem RefSt.bad {L:List By} {k:Nat} {q:Int} {ws:List Wd} (h:RefSt L k q ws) {c:By} {t:List By} (e:L.drop k=c::t) (hb:isBl c=false) (h35:¬c.toNat=35) {x:Wd} {m:Nat} {ok:Bool} (ho:oneR c t k=(x,m,ok)) (hc:(!ok||(decide (q=(k:Int))&&(!decide (x.1=3)&&lastB ws)))=true):scanR L 0 false= .error k:=by
 rw [h.eq,e,scan_bad hb h35 t k _ (by
  rw [ho]
  simp only
  rw [←hc]
  cases ok<;>cases decide (q=(k:Int))<;>cases decide (x.1=3)<;>cases lastB ws<;>rfl)]
 rfl
theorem RefSt.next {L:List By} {k:Nat} {q:Int} {ws:List Wd} (h:RefSt L k q ws) {c:By} {t:List By} (e:L.drop k=c::t) (hb:isBl c=false) (h35:¬c.toNat=35) {x:Wd} {m:Nat} (ho:oneR c t k=(x,m,true)) (hc:(decide (q=(k:Int))&&(!decide (x.1=3)&&lastB ws))=false):
  k+1+m≤L.length∧RefSt L (k+1+m) ((k+1+m:Nat):Int) (ws++[x]):=by
 have hl:=drop_lt e
 have hm:=one_le c t k
 rw [ho] at hm
 simp only at hm
 refine⟨by omega,by omega,by omega,fun _=>by simp,by have:=h.len;simp;omega,?_⟩
 rw [h.eq,e,scan_word hb h35 t k _ (by
  rw [ho]
  simp only
  rw [←hc]
  cases decide (q=(k:Int))<;>cases decide (x.1=3)<;>cases lastB ws<;>rfl),ho,prepR_prepR,lastB_snoc,drop_more e]
 simp
theorem RefSt.done {L:List By} {k:Nat} {q:Int} {ws:List Wd} (h:RefSt L k q ws) (hk:¬k < L.length):scanR L 0 false= .ok ws:=by
 rw [h.eq,List.drop_eq_nil_of_le (by omega),scan_nil]
 simp [prepR]
end Go.Proofs.YtbnhnnccioljhaaGreatDoor
namespace Go.Proofs.YtbnhnnccioljhaaGreatDoor
open Go.RowKit
theorem rscan_long (s:ByteArray) (w:World) (h:8000 < s.size):Calls Tryz.prog 37 #[.string s] w (ScanPost s.data.toList w):=by
 have e:scanA s.data.toList=([],8000,6):=by unfold scanA;rw [if_pos (by rw [←Lib.size_eq];exact h)]
 unfold ScanPost
 rw [e]
 go_enter Tryz.func37,Tryz.ntmps37
 go_wp2
 go_ret3
 exact⟨_,rfl,World.ownsRow_nil _ _ _ _,Below.refl _ _⟩
theorem rscan_short (s:ByteArray) (w:World) (hs:s.size≤8000):Calls Tryz.prog 37 #[.string s] w (ScanPost s.data.toList w):=by
 have hA:(∀ws,scanR s.data.toList 0 false= .ok ws→scanA s.data.toList=(ws,0,0))∧∀p:Nat,scanR s.data.toList 0 false= .error p→scanA s.data.toList=([],(p:Int),5):=by
  have h:¬8000 < s.data.toList.length:=by rw [←Lib.size_eq];omega
  constructor<;>(intro x hx;unfold scanA;rw [if_neg h,hx])
 have HA:=xhd hA
 clear hA
 obtain⟨i0,hi0,hz0,hz1,hz2⟩:=info_parts word_info
 have HSZ:=xhd (Lib.size_eq s)
 have H0:=xhd (RefSt.start s.data.toList)
 have d0:decide ((8000:Int) < (s.size:Int))=false:=by simp;omega
 go_enter Tryz.func37,Tryz.ntmps37
 go_wp2
 go_loopw [5,6,7] (fun l q' k' wr=>∃(k:Nat) (q:Int) (ws:List Wd),q'= .int .i64 q∧k'= .int .i64 k∧k≤s.size∧Hid (RefSt s.data.toList k q ws)∧Hid (WRow w.heap.size wr l ws)∧Hid (Below w.heap.size w wr)) (fun _ _ k' _=>s.size - (intOf k').toNat)
 case atStart=>exact⟨0, -1,[],rfl,rfl,Nat.zero_le _,H0,World.ownsRow_nil _ _ _ _,Below.refl _ _⟩
 case round=>
  obtain⟨k,q,ws,rfl,rfl,hk,HST,HO,HB⟩:=hrel
  rename World=>wo
  have hqk:=HST.out.qk
  have hwl:=HST.out.len
  by_cases hlt:k < s.size
  ·have hd:=byte_drop s k hlt
   obtain⟨c,hc⟩:∃c,s[k]=c:=⟨_,rfl⟩
   rw [hc] at hd
   obtain⟨t,ht⟩:∃t,s.data.toList.drop (k+1)=t:=⟨_,rfl⟩
   rw [ht] at hd
   have HD:=xhd hd
   have HTT:=xhd ht
   clear hd ht
   have e32:((c.toNat:Int) == 32)=decide (c.toNat=32):=eqb c 32
   have e9:((c.toNat:Int) == 9)=decide (c.toNat=9):=eqb c 9
   have e10:((c.toNat:Int) == 10)=decide (c.toNat=10):=eqb c 10
   have e35:((c.toNat:Int) == 35)=decide (c.toNat=35):=eqb c 35
   have HBL:Hid (isBl c=(decide (c.toNat=32)||(decide (c.toNat=9)||decide (c.toNat=10)))):=rfl
   cases h32:decide (c.toNat=32) with
   |true=>
    rw [h32] at e32
    have HX:=xhd (HST.out.blank HD.out (by rw [HBL.out,h32];rfl))
    clear h32 e9 e10 e35
    go_wp2
    go_roundw
    case rel=>exact⟨k+1,q,ws,rfl,by go_num,by omega,HX,HO,HB⟩
    case measure=>simp [intOf];omega
   |false=>
    rw [h32] at e32
    cases h9:decide (c.toNat=9) with
    |true=>
     rw [h9] at e9
     have HX:=xhd (HST.out.blank HD.out (by rw [HBL.out,h9,Bool.true_or,Bool.or_true]))
     clear h32 h9 e10 e35
     go_wp2
     go_roundw
     case rel=>exact⟨k+1,q,ws,rfl,by go_num,by omega,HX,HO,HB⟩
     case measure=>simp [intOf];omega
    |false=>
     rw [h9] at e9
     cases h10:decide (c.toNat=10) with
     |true=>
      rw [h10] at e10
      have HX:=xhd (HST.out.blank HD.out (by rw [HBL.out,h10,Bool.or_true,Bool.or_true]))
      clear h32 h9 h10 e35
      go_wp2
      go_roundw
      case rel=>exact⟨k+1,q,ws,rfl,by go_num,by omega,HX,HO,HB⟩
      case measure=>simp [intOf];omega
     |false=>
      rw [h10] at e10
      have HNB:=xhd (show isBl c=false by rw [HBL.out,h32,h9,h10];rfl)
      have HN10:=xhd (show not10 c=true by unfold not10;rw [h10];rfl)
      cases h35:decide (c.toNat=35) with
      |true=>
       rw [h35] at e35
       have HC35:=xhd (of_decide_eq_true h35)
       clear h32 h9 h10 h35
       obtain⟨T,hT⟩:∃T,T=k+1+(t.takeWhile not10).length:=⟨_,rfl⟩
       have HX:=xhd (HST.out.remark HD.out HNB.out HC35.out hT)
       have HTL:=xhd hT
       have HKT:Hid (T=k+((s.data.toList.drop k).takeWhile not10).length):=by
        unfold Hid
        rw [HD.out,List.takeWhile_cons,if_pos HN10.out,List.length_cons,HTL.out]
        omega
       have hkT:k+1≤T:=by omega
       clear hT
       go_wp2_with fail
       clear hc e32 e9 e10 e35
       go_loop [7] (fun a=>∃j:Nat,k≤j∧j≤s.size∧a= .int .i64 j∧Hid (T=j+((s.data.toList.drop j).takeWhile not10).length)) (fun a=>s.size - (intOf a).toNat)
       case atStart=>exact⟨k,Nat.le_refl _,hk,rfl,HKT⟩
       case round=>
        obtain⟨j,hkj,hj,rfl,HJ⟩:=hrel
        by_cases hjl:j < s.size
        ·have HDJ:=xhd (byte_drop s j hjl)
         obtain⟨d,hd⟩:∃d,s[j]=d:=⟨_,rfl⟩
         rw [hd] at HDJ
         have n10:((d.toNat:Int) != 10)=not10 d:=neb d 10
         cases hq:not10 d with
         |true=>
          rw [hq] at n10
          have HE:=xhd hq
          clear hq
          go_wp2
          go_round
          case rel=>exact⟨j+1,by omega,by omega,by go_num,by
           have h:=HJ.out
           rw [HDJ.out,List.takeWhile_cons,if_pos HE.out,List.length_cons] at h
           unfold Hid
           omega⟩
          case measure=>simp [intOf];omega
         |false=>
          rw [hq] at n10
          have HE:=xhd hq
          clear hq
          have hjT:T=j:=by
           have h:=HJ.out
           rw [HDJ.out,List.takeWhile_cons,if_neg (by rw [HE.out];decide)] at h
           simpa using h
          have HJT:=xhd hjT
          clear hjT
          go_wp2
          go_roundw
          case rel=>exact⟨j,q,ws,rfl,rfl,hj,HJT.out ▸ HX,HO,HB⟩
          case measure=>
           have:=HJT.out
           simp [intOf]
           omega
        ·have hjT:T=j:=by
           have h:=HJ.out
           rw [drop_end s j (by omega)] at h
           simpa using h
         have HJT:=xhd hjT
         clear hjT
         go_wp2
         go_roundw
         case rel=>exact⟨j,q,ws,rfl,rfl,hj,HJT.out ▸ HX,HO,HB⟩
         case measure=>
          have:=HJT.out
          simp [intOf]
          omega
      |false=>
       rw [h35] at e35
       have HC35:=xhd (of_decide_eq_false h35)
       clear h32 h9 h10 h35
       have HC:=xhd (fun W=>one_any s k c t W hlt (by omega) HD.out)
       obtain⟨⟨⟨a,b,cc,d⟩,m,ok⟩,hx⟩:∃x,oneR c t k=x:=⟨_,rfl⟩
       rw [hx] at HC
       simp only [wdV] at HC
       have HXX:=xhd hx
       obtain⟨tx,htx⟩:∃tx:ByteArray,⟨b.toArray⟩=tx:=⟨_,rfl⟩
       rw [htx] at HC
       have HTX:=xhd htx
       obtain⟨T,hT⟩:∃T,k+1+m=T:=⟨_,rfl⟩
       rw [hT] at HC
       have HTE:=xhd hT
       clear hx htx hT
       have hle:=HB.out.size
       cases ok with
       |false=>
        have HBAD:=xhd (HST.out.bad HD.out HNB.out HC35.out HXX.out rfl)
        go_wp2_with fail
        with_reducible refine (HC.out _).mono ?_
        rintro e w2 ⟨rfl,hb2⟩
        have HB2:=xhd hb2
        have hsz2:=hb2.size
        clear hb2
        go_wp2
        go_ret3
        exact post_err (HA.out.2 k HBAD.out) ((HB.out.trans (HB2.out.mono hle)).alloc (by omega) _)
       |true=>
        by_cases hqk2:q=(k:Int)
        ·have d2:(q == (k:Int))=true:=by simp [hqk2]
         have hne:=HST.out.has (by omega)
         have HQK:=xhd (decide_eq_true hqk2)
         clear hqk2
         have HWS:Hid (∃(N:Nat) (y:Wd),ws.length=N+1∧lastB ws=!decide (y.1=3)∧∃h:N < ws.length,ws[N]=y):=by
          unfold Hid
          rcases List.eq_nil_or_concat ws with h|⟨ys,y,h⟩
          ·exact absurd h hne
          ·rw [List.concat_eq_append] at h
           subst h
           exact⟨ys.length,y,by simp,lastB_snoc ys y,by simp,List.getElem_concat_length rfl _⟩
         obtain⟨N,y,hN,hlast,hNl,hy⟩:=HWS.out
         clear hne HWS
         obtain⟨g,cap,rfl,_,_⟩:=ownsRow_pos HO.out (by omega)
         have hg:=(HO.out.lt g (by simp [Value.ownBlock])).2
         have hce:=(row_word HO.out N hNl).1
         rw [hy] at hce
         obtain⟨r,hr⟩:∃r,y.1=r:=⟨_,rfl⟩
         rw [hr] at hce hlast
         have HLB:=xhd hlast
         have HLEN:=xhd hN
         have HO':Hid (wo.ownsRow w.heap.size 95 4 (.slice (some ⟨g,0,none⟩) (N+1) cap) (N+1) (wdsC ws)):=by
          have h:wo.ownsRow w.heap.size 95 4 (.slice (some ⟨g,0,none⟩) ws.length cap) ws.length (wdsC ws):=HO.out
          rw [hN] at h
          exact h
         rw [hN] at hwl ⊢
         clear HO hr hy hlast hN hNl
         have HO:=HO'
         clear HO'
         have ea:(a != 3)=!decide (a=3):=ne3 a
         have er:(r != 3)=!decide (r=3):=ne3 r
         cases ha:decide (a=3) with
         |true=>
          rw [ha] at ea
          have HNX:=xhd (HST.out.next HD.out HNB.out HC35.out HXX.out (by rw [ha];simp))
          clear ha er
          go_wp2_with fail
          with_reducible refine (HC.out _).mono ?_
          rintro e w2 ⟨rfl,hb2⟩
          have HB2:=xhd hb2
          have hsz2:=hb2.size
          clear hb2
          go_wp2_with (at_builtin;refine wpList_append_own _ rfl _ _ 50 rfl w.heap.size 95 i0 (.agg #[.int .i64 0, .string ⟨#[]⟩, .int .i64 0, .int .i64 0]) 4 40 Tryz.underlying50 hi0 hz0 hz1 hz2 rfl (by decide) _ _ _ rfl (row_below HO.out ((HB2.out.alloc (by omega) _).alloc (by simp;omega) _)) ⟨_,0,none⟩ 1 1 [.int .i64 a, .string tx, .int .i64 cc, .int .i64 d] rfl rfl ?c1 ?c2 ?c3 ?c4 ?c5 ?_)
          case c1=>
           intro j u hj
           rw [Addr.add_lit]
           match j,hj with
           |0,hj=>simp at hj;subst hj;simp
           |1,hj=>simp at hj;subst hj;simp
           |2,hj=>simp at hj;subst hj;simp
           |3,hj=>simp at hj;subst hj;simp
          case c2=>
           intro u hu
           simp at hu
           rcases hu with rfl|rfl|rfl|rfl<;>rfl
          case c3=>unfold maxLen;omega
          case c4=>omega
          case c5=>simp;omega
          intro v' w4 hown2 hgrow _
          obtain⟨hle3,hst⟩:=HNX.out
          have HO2:Hid (WRow w.heap.size w4 v' (ws++[(a,b,cc,d)])):=by
           unfold Hid WRow
           rw [wdsC_snoc,List.length_append,List.length_singleton,HLEN.out]
           have e:wdC (a,b,cc,d)=[.int .i64 a, .string tx, .int .i64 cc, .int .i64 d]:=by rw [←HTX.out];rfl
           rw [e]
           exact hown2
          have HB4:=xhd (app_below (HB.out.trans (((HB2.out.alloc (by omega) _).alloc (by simp;omega) _).mono HB.out.size)) (Nat.le_refl _) (Nat.le_refl _) HO.out hgrow)
          rw [HTE.out] at hst hle3
          rw [←HSZ.out] at hle3
          have HST2:=xhd hst
          have hTk:k < T:=by have:=HTE.out;omega
          clear hst hown2 hgrow
          go_wp2
          go_roundw
          case rel=>exact⟨T,(T:Int),_,rfl,rfl,hle3,HST2,HO2,HB4⟩
          case measure=>simp [intOf];omega
         |false=>
          rw [ha] at ea
          cases hb:decide (r=3) with
          |true=>
           rw [hb] at er
           have HNX:=xhd (HST.out.next HD.out HNB.out HC35.out HXX.out (by rw [HLB.out,hb];simp))
           clear ha hb
           go_wp2_with fail
           with_reducible refine (HC.out _).mono ?_
           rintro e w2 ⟨rfl,hb2⟩
           have HB2:=xhd hb2
           have hsz2:=hb2.size
           clear hb2
           have hc4:=(HB2.out.cell (p:=⟨g,N*4,none⟩) hg).trans hce
           have hg2:g < w2.heap.size:=by omega
           clear hce
           go_wp2_with (at_builtin;refine wpList_append_own _ rfl _ _ 50 rfl w.heap.size 95 i0 (.agg #[.int .i64 0, .string ⟨#[]⟩, .int .i64 0, .int .i64 0]) 4 40 Tryz.underlying50 hi0 hz0 hz1 hz2 rfl (by decide) _ _ _ rfl (row_below HO.out ((HB2.out.alloc (by omega) _).alloc (by simp;omega) _)) ⟨_,0,none⟩ 1 1 [.int .i64 a, .string tx, .int .i64 cc, .int .i64 d] rfl rfl ?e1 ?e2 ?e3 ?e4 ?e5 ?_)
           case e1=>
            intro j u hj
            rw [Addr.add_lit]
            match j,hj with
            |0,hj=>simp at hj;subst hj;simp
            |1,hj=>simp at hj;subst hj;simp
            |2,hj=>simp at hj;subst hj;simp
            |3,hj=>simp at hj;subst hj;simp
           case e2=>
            intro u hu
            simp at hu
            rcases hu with rfl|rfl|rfl|rfl<;>rfl
           case e3=>unfold maxLen;omega
           case e4=>omega
           case e5=>simp;omega
           intro v' w4 hown2 hgrow _
           obtain⟨hle3,hst⟩:=HNX.out
           have HO2:Hid (WRow w.heap.size w4 v' (ws++[(a,b,cc,d)])):=by
            unfold Hid WRow
            rw [wdsC_snoc,List.length_append,List.length_singleton,HLEN.out]
            have e:wdC (a,b,cc,d)=[.int .i64 a, .string tx, .int .i64 cc, .int .i64 d]:=by rw [←HTX.out];rfl
            rw [e]
            exact hown2
           have HB4:=xhd (app_below (HB.out.trans (((HB2.out.alloc (by omega) _).alloc (by simp;omega) _).mono HB.out.size)) (Nat.le_refl _) (Nat.le_refl _) HO.out hgrow)
           rw [HTE.out] at hst hle3
           rw [←HSZ.out] at hle3
           have HST2:=xhd hst
           have hTk:k < T:=by have:=HTE.out;omega
           clear hst hown2 hgrow
           go_wp2
           go_roundw
           case rel=>exact⟨T,(T:Int),_,rfl,rfl,hle3,HST2,HO2,HB4⟩
           case measure=>simp [intOf];omega
          |false=>
           rw [hb] at er
           have HBAD:=xhd (HST.out.bad HD.out HNB.out HC35.out HXX.out (by rw [HQK.out,HLB.out,hb,ha];rfl))
           clear ha hb
           go_wp2_with fail
           with_reducible refine (HC.out _).mono ?_
           rintro e w2 ⟨rfl,hb2⟩
           have HB2:=xhd hb2
           have hsz2:=hb2.size
           clear hb2
           have hc4:=(HB2.out.cell (p:=⟨g,N*4,none⟩) hg).trans hce
           have hg2:g < w2.heap.size:=by omega
           clear hce
           go_wp2
           go_ret3
           exact post_err (HA.out.2 k HBAD.out) ((HB.out.trans (HB2.out.mono hle)).alloc (by omega) _)
        ·have d2:(q == (k:Int))=false:=by simpa using hqk2
         have HNX:=xhd (HST.out.next HD.out HNB.out HC35.out HXX.out (by rw [decide_eq_false hqk2,Bool.false_and]))
         clear hqk2
         go_wp2_with fail
         with_reducible refine (HC.out _).mono ?_
         rintro e w2 ⟨rfl,hb2⟩
         have HB2:=xhd hb2
         have hsz2:=hb2.size
         clear hb2
         go_wp2_with (at_builtin;refine wpList_append_own _ rfl _ _ 50 rfl w.heap.size 95 i0 (.agg #[.int .i64 0, .string ⟨#[]⟩, .int .i64 0, .int .i64 0]) 4 40 Tryz.underlying50 hi0 hz0 hz1 hz2 rfl (by decide) _ _ _ rfl (row_below HO.out ((HB2.out.alloc (by omega) _).alloc (by simp;omega) _)) ⟨_,0,none⟩ 1 1 [.int .i64 a, .string tx, .int .i64 cc, .int .i64 d] rfl rfl ?f1 ?f2 ?f3 ?f4 ?f5 ?_)
         case f1=>
          intro j u hj
          rw [Addr.add_lit]
          match j,hj with
          |0,hj=>simp at hj;subst hj;simp
          |1,hj=>simp at hj;subst hj;simp
          |2,hj=>simp at hj;subst hj;simp
          |3,hj=>simp at hj;subst hj;simp
         case f2=>
          intro u hu
          simp at hu
          rcases hu with rfl|rfl|rfl|rfl<;>rfl
         case f3=>unfold maxLen;omega
         case f4=>omega
         case f5=>simp;omega
         intro v' w4 hown2 hgrow _
         obtain⟨hle3,hst⟩:=HNX.out
         have HO2:Hid (WRow w.heap.size w4 v' (ws++[(a,b,cc,d)])):=by
          unfold Hid WRow
          rw [wdsC_snoc,List.length_append,List.length_singleton]
          have e:wdC (a,b,cc,d)=[.int .i64 a, .string tx, .int .i64 cc, .int .i64 d]:=by rw [←HTX.out];rfl
          rw [e]
          exact hown2
         have HB4:=xhd (app_below (HB.out.trans (((HB2.out.alloc (by omega) _).alloc (by simp;omega) _).mono HB.out.size)) (Nat.le_refl _) (Nat.le_refl _) HO.out hgrow)
         rw [HTE.out] at hst hle3
         rw [←HSZ.out] at hle3
         have HST2:=xhd hst
         have hTk:k < T:=by have:=HTE.out;omega
         clear hst hown2 hgrow
         go_wp2
         go_roundw
         case rel=>exact⟨T,(T:Int),_,rfl,rfl,hle3,HST2,HO2,HB4⟩
         case measure=>simp [intOf];omega
  ·have HLT:=xhd hlt
   go_wp2
   go_ret3
   exact post_ok (HA.out.1 _ (HST.out.done (by rw [←HSZ.out];exact HLT.out))) HO.out HB.out
theorem rscan_any (s:ByteArray) (w:World):Calls Tryz.prog 37 #[.string s] w (ScanPost s.data.toList w):=by
 by_cases h:8000 < s.size
 ·exact rscan_long s w h
 ·exact rscan_short s w (by omega)
end Go.Proofs.YtbnhnnccioljhaaGreatDoor
