/-
  CoresRuns: the walk, given what is said of the program's cores. (Made by gen_coruns.py.)
-/
import Derived.Test.YtfmciiffcmfagaaGreatZAI
import Derived.Deep.CutRange
import Derived.StillTailTactics
import Derived.Test.YtfmciiffcmfagaaGreatZAl
set_option maxRecDepth 100000
set_option maxHeartbeats 25600000
namespace Go.Proofs.YtfmciiffcmfagaaGreat
open Go.RowKit
theorem cells5c {w:World} {b:Nat} {x y z u v:Value} {t:TypeId} (h:w.heap[b]?=some (.cells #[x,y,z,u,v] t (0,0))):
  w.cell? ⟨b,0,none⟩=some x∧w.cell? ⟨b,1,none⟩=some y∧w.cell? ⟨b,2,none⟩=some z∧w.cell? ⟨b,3,none⟩=some u∧w.cell? ⟨b,4,none⟩=some v:=by
 refine⟨?_,?_,?_,?_,?_⟩<;>simp [World.cell?,h]
theorem cells2c {w:World} {b:Nat} {x y:Value} {t:TypeId} (h:w.heap[b]?=some (.cells #[x,y] t (0,0))):
  w.cell? ⟨b,0,none⟩=some x∧w.cell? ⟨b,1,none⟩=some y:=by
 refine⟨?_,?_⟩<;>simp [World.cell?,h]
theorem du_same {S:RqSaid} {C:CoSaid S} {w W:World} {b d z:Nat} {bx:Obj} {l:List Rq} {c:Int} (h:DuB S C w W b d z bx l l) (hc:COk l c) (h1:c≤10000) (hI:IdsC l) (id:Int) (hid:isI id):
  Calls Tryz.prog 27 #[.pointer (some ⟨b,0,none⟩), .pointer (some ⟨d,0,none⟩), .int .i64 id] W fun e w'=>e= .returned (.bool true)∧DuB S C w w' b d z bx l l:=by
 have h0:=h
 obtain⟨X0,T,X1,T1,h2,h3,h4,h5⟩:=h
 exact (same17_any S C h2.at_ h2.ref hc h1 hI id hid).mono fun e w' hh=>⟨hh.1,h0.later hh.2⟩
theorem bal_sign {l:List Rq} {c:Int} (h:COk l c):(balC l).isSome=decide (0≤(balV l).1):=by
 unfold balV
 cases hb:balC l with
 |none=>rfl
 |some x=>
  obtain⟨id,k,t⟩:=x
  obtain⟨q,y,hk,hx,_⟩:=balC_some h hb
  have:=(h.ok q (mem_at hk)).ids _ (findQ_mem hx)
  simpa using this
theorem of_sign (l:List Rq) (id:Int):(ofN l id).isSome=decide (0≤ofC l id):=by
 unfold ofC
 cases ofN l id with
 |none=>rfl
 |some k=>simp
theorem settle_step {l:List Rq} {j:Nat} {q:Rq} (hq:l[j]?=some q):((l.take j).map Rq.settle++l.drop j).set j q.settle=(l.take (j+1)).map Rq.settle++l.drop (j+1):=by
 have hj:j < l.length:=(List.getElem?_eq_some_iff.1 hq).1
 have he:l[j]=q:=(List.getElem?_eq_some_iff.1 hq).2
 have h1:((l.take j).map Rq.settle).length=j:=by simp;omega
 rw [List.set_append_right _ _ (by omega),h1,Nat.sub_self,List.drop_eq_getElem_cons hj,List.set_cons_zero,List.take_add_one,hq,List.map_append,List.append_assoc]
 rfl
theorem settle_at {l:List Rq} {j:Nat} {q:Rq} (hq:l[j]?=some q):((l.take j).map Rq.settle++l.drop j)[j]?=some q:=by
 have hj:j < l.length:=(List.getElem?_eq_some_iff.1 hq).1
 have h1:((l.take j).map Rq.settle).length=j:=by simp;omega
 rw [List.getElem?_append_right (by omega),h1,Nat.sub_self,List.getElem?_drop]
 exact hq
theorem settle_len (l:List Rq) (j:Nat):((l.take j).map Rq.settle++l.drop j).length=l.length:=by simp;omega
theorem coruns_walk (S:RqSaid) (C:CoSaid S) (m0 m1:Int) (ao:Option Addr) (lb off n cap:Nat) (E:Nat→Dc) (w:World) (hm0:isI m0) (hm1:isI m1) (hao:0 < n→ao=some ⟨lb,off,none⟩∧lb < w.heap.size)
  (hE:∀i,i < n→w.cell? ⟨lb,off+i*5,none⟩=some (.int .u8 (E i).1)∧w.cell? ⟨lb,off+i*5+1,none⟩=some (.int .i64 (E i).2.1)∧w.cell? ⟨lb,off+i*5+2,none⟩=some (.int .i64 (E i).2.2.1)∧w.cell? ⟨lb,off+i*5+3,none⟩=some (.int .u64 (E i).2.2.2.1)∧w.cell? ⟨lb,off+i*5+4,none⟩=some (.int .i64 (E i).2.2.2.2))
  (hW:∀i,i < n→wfC (E i)) (hm:n≤maxLen):
  Calls Tryz.prog 3 #[.agg #[.int .i64 m0, .int .i64 m1], .slice ao n cap] w fun r w'=>r= .returned (.bool true)∧Turned [] w w':=by
 unfold maxLen at hm
 have HE:=xhd hE
 have HAO:=xhd hao
 have HWf:=xhd hW
 have AW:=xhd (fun V=>awake17 S C V)
 have HNP:=xhd (fun V=>on_new C m0 m1 V hm0 hm1)
 have HND:=xhd (fun V=>rcnew_any m0 m1 V)
 have HB0:=xhd (heap_alloc_new w (.cells #[.int .i64 m0, .int .i64 m1] 22))
 have HT0:=xhd ((Turned.refl [] w).alloc (.cells #[.int .i64 m0, .int .i64 m1] 22))
 clear hE hao hW hm0 hm1
 by_cases h60:60 < n
 ·have h60z:(60:Int) < (n:Int):=by omega
  go_enter Tryz.func3,Tryz.ntmps3
  go_wp2_with fail
  with_reducible refine (AW.out _).mono ?_
  rintro e w0 ⟨rfl,t0⟩
  have T0:=xhd (HT0.out.also t0)
  clear t0
  go_wp2
  go_ret
  exact⟨rfl,T0.out⟩
 ·have h60z:¬(60:Int) < (n:Int):=by omega
  go_enter Tryz.func3,Tryz.ntmps3
  go_wp2_with fail
  with_reducible refine (AW.out _).mono ?_
  rintro e w0 ⟨rfl,t0⟩
  have T0:=xhd (HT0.out.also t0)
  have B0:=xhd (t0.same HB0.out (by simp))
  clear t0 AW HB0 HT0
  go_wp2_with fail
  generalize w.heap.size=zb at B0 ⊢
  have B1:=xhd (show w0.drew.heap[zb]?=_ from B0.out)
  have T1:=xhd (T0.out.drew)
  obtain⟨x0,x1⟩:=cells2c B1.out
  go_region_held3 (fun V=>V.cell? ⟨zb,0,none⟩=some (.int .i64 m0)∧V.cell? ⟨zb,1,none⟩=some (.int .i64 m1))
   (first|exact⟨x0,x1⟩ |exact⟨v0,v1⟩ |exact⟨u0,u1⟩)
   (first
     |(go_at_call 5
       with_reducible refine (HNP.out _).mono ?_
       rintro e V1 ⟨b,rfl,a1⟩
       have A1:=xhd a1
       obtain⟨v0,v1⟩:=cells2c (A1.out.t.same B1.out (by simp))
       clear a1)
     |(go_at_call 6
       with_reducible refine (HND.out _).mono ?_
       rintro e V2 ⟨X1,Y1,rfl,r2,t2,n2⟩
       have HD0:Hid (DuB S C w V2 b V1.heap.size zb _ (newC m0 m1) (newC m0 m1)):=xhd (du_start T1.out B1.out A1.out r2 t2 n2)
       obtain⟨u0,u1⟩:=cells2c HD0.out.box
       clear r2 t2 n2)
     |fail)
  clear x0 x1 v0 v1 u0 u1 A1 T1 B1 T0 B0 HNP HND
  generalize V1.heap.size=d at HD0 ⊢
  go_wp2_with fail
  go_loopw [46] (fun iv V=>∃(i:Nat) (l:List Rq) (z:Nat) (bx:Obj),i≤n∧iv= .int .i64 i∧Hid (DuB S C w V b d z bx l l)∧Hid (COk l (8+i))∧Hid (IdsC l)) (fun iv _=>n - (intOf iv).toNat)
  case atStart=>exact⟨0,_,_,_,Nat.zero_le _,rfl,HD0,xhd (by simpa using cok_new m0 m1),xhd (IdsC.new m0 m1)⟩
  case round=>
   clear HD0
   obtain⟨i,l,z0,bx0,hi,rfl,HD,HC,HI⟩:=hrel
   by_cases hlt:i < n
   ·obtain⟨rfl,hlb⟩:=HAO.out (by omega)
    have hcell:=HE.out i hlt
    have hwf:=HWf.out i hlt
    have hbb:=HD.out.t.below (B:=w.heap.size) (by simp) (Nat.le_refl _)
    rw [←hbb.cell (p:=⟨lb,off+i*5,none⟩) hlb, ←hbb.cell (p:=⟨lb,off+i*5+1,none⟩) hlb, ←hbb.cell (p:=⟨lb,off+i*5+2,none⟩) hlb, ←hbb.cell (p:=⟨lb,off+i*5+3,none⟩) hlb, ←hbb.cell (p:=⟨lb,off+i*5+4,none⟩) hlb] at hcell
    obtain⟨z1,z2,z3,z4,z5⟩:=hcell
    obtain⟨⟨dk,d1,d2,d3,d4⟩,hdd⟩:∃z,E i=z:=⟨_,rfl⟩
    simp only [hdd] at z1 z2 z3 z4 z5 hwf
    clear hdd hbb
    obtain⟨hw0,hw1,hw2,hw3,hw4⟩:=hwf
    simp only at hw0 hw1 hw2 hw3 hw4
    have H1:Hid (DuB S C w (wr.alloc (.cells #[.int .u8 dk, .int .i64 d1, .int .i64 d2, .int .u64 d3, .int .i64 d4] 31)) b d wr.heap.size (.cells #[.int .u8 dk, .int .i64 d1, .int .i64 d2, .int .u64 d3, .int .i64 d4] 31 (0,0)) l l):=xhd (HD.out.boxed ((Turned.refl [] wr).alloc _) (heap_alloc_new wr (.cells #[.int .u8 dk, .int .i64 d1, .int .i64 d2, .int .u64 d3, .int .i64 d4] 31)) (Nat.le_refl _))
    have l1:(i:Int) < n:=by omega
    have hc5:(8:Int)+i≤1000:=by omega
    have HLT:Hid (i < n):=xhd hlt
    have hlen:=HC.out.len
    go_upto_region 10 with (fail)
    clear z1 z2 z3 z4 z5
    generalize wr.alloc (.cells #[.int .u8 dk, .int .i64 d1, .int .i64 d2, .int .u64 d3, .int .i64 d4] 31)=W at H1 ⊢
    generalize wr.heap.size=z at H1 ⊢
    go_cut [10,46] from 46 to 279 (fun s10 s46 wx=>s10= .bool (decide (0≤d1)&&decide (d1 < l.length))∧s46= .int .i64 i∧Hid (DuB S C w wx b d z (.cells #[.int .u8 dk, .int .i64 d1, .int .i64 d2, .int .u64 d3, .int .i64 d4] 31 (0,0)) l l))
    case first=>
     obtain⟨y0,y1,y2,y3,y4⟩:=cells5c H1.out.box
     obtain⟨g,cg,c0⟩:=du_len H1.out (by omega)
     cases a1:decide (0≤d1) with
     |true=>
      cases a2:decide (d1 < (l.length:Int)) with
      |true=>
       go_wp2_with fail
       go_quiet (fail)
       go_wp2_with fail
       go_meet
       exact⟨congrArg Value.bool (by rw [a1,a2];rfl),rfl,xhd (H1.out.later ((Turned.refl [] W).drewN nq))⟩
      |false=>
       go_wp2_with fail
       go_quiet (fail)
       go_wp2_with fail
       go_meet
       exact⟨congrArg Value.bool (by rw [a1,a2];rfl),rfl,xhd (H1.out.later ((Turned.refl [] W).drewN nq))⟩
     |false=>
      go_wp2_with fail
      go_quiet (fail)
      go_wp2_with fail
      go_meet
      exact⟨congrArg Value.bool (by rw [a1];rfl),rfl,xhd (H1.out.later ((Turned.refl [] W).drewN nq))⟩
    case rest=>
     clear H1 HD hlt
     obtain⟨rfl,rfl,H1⟩:=hcut
     by_cases q0:(dk % 10 == 0)=true
     ·as_aux_lemma=>
       obtain⟨y0,y1,y2,y3,y4⟩:=cells5c H1.out.box
       have PC:=xhd (du_add H1.out HC.out (by omega) d1 d2 d3 d4 hw1 hw2 hw4 hw3)
       go_wp2_with fail
       with_reducible refine PC.out.mono ?_
       rintro e V1 ⟨rfl,h2⟩
       have H2:=xhd h2
       clear h2 PC
       clear y0 y1 y2 y3 y4
       obtain⟨y0,y1,y2,y3,y4⟩:=cells5c H2.out.box
       have RC:=xhd (du_radd H2.out HC.out d1 d2 d3 d4)
       go_wp2_with fail
       with_reducible refine RC.out.mono ?_
       rintro e V2 ⟨rfl,h3⟩
       have H3:=xhd h3
       clear h3 RC
       clear y0 y1 y2 y3 y4
       have HC2:Hid (COk _ (8+i+1)):=xhd ((HC.out.addC d1 d2 hw3 d4).later (by omega))
       have HI2:=xhd (HI.out.addC d1 hw2 d3 d4)
       obtain⟨y0,y1,y2,y3,y4⟩:=cells5c H3.out.box
       have SM:=xhd (du_same H3.out HC2.out (by omega) HI2.out d2 hw2)
       go_wp2_with fail
       with_reducible refine SM.out.mono ?_
       rintro e V3 ⟨rfl,h4⟩
       have H4:=xhd h4
       have HC3:Hid (COk _ (8+((i+1:Nat):Int))):=xhd (by have:=HC2.out;rw [show (8:Int)+((i+1:Nat):Int)=8+i+1 by omega];exact this)
       clear h4 y0 y1 y2 y3 y4 SM HC2
       go_wp2
       go_roundw
       case rel=>exact⟨i+1,_,_,_,by have:=HLT.out;omega,by go_num,H4,HC3,HI2⟩
       case measure=>have:=HLT.out;simp [intOf];omega
     ·have q0':(dk % 10 == 0)=false:=by simpa using q0
      clear q0
      by_cases q1:(dk % 10 == 1)=true
      ·as_aux_lemma=>
        obtain⟨y0,y1,y2,y3,y4⟩:=cells5c H1.out.box
        have PC:=xhd (du_remove H1.out HC.out (by omega) d2 hw2)
        go_wp2_with fail
        with_reducible refine PC.out.mono ?_
        rintro e V1 ⟨rfl,h2⟩
        have H2:=xhd h2
        clear h2 PC
        clear y0 y1 y2 y3 y4
        obtain⟨y0,y1,y2,y3,y4⟩:=cells5c H2.out.box
        have RC:=xhd (du_rremove H2.out HC.out d2)
        go_wp2_with fail
        with_reducible refine RC.out.mono ?_
        rintro e V2 ⟨rfl,h3⟩
        have H3:=xhd h3
        clear h3 RC
        clear y0 y1 y2 y3 y4
        have HC2:Hid (COk _ (8+i+1)):=xhd ((HC.out.remC d2).later (by omega))
        have HI2:=xhd (HI.out.remC d2)
        obtain⟨y0,y1,y2,y3,y4⟩:=cells5c H3.out.box
        have SM:=xhd (du_same H3.out HC2.out (by omega) HI2.out d2 hw2)
        go_wp2_with fail
        with_reducible refine SM.out.mono ?_
        rintro e V3 ⟨rfl,h4⟩
        have H4:=xhd h4
        have HC3:Hid (COk _ (8+((i+1:Nat):Int))):=xhd (by have:=HC2.out;rw [show (8:Int)+((i+1:Nat):Int)=8+i+1 by omega];exact this)
        clear h4 y0 y1 y2 y3 y4 SM HC2
        go_wp2
        go_roundw
        case rel=>exact⟨i+1,_,_,_,by have:=HLT.out;omega,by go_num,H4,HC3,HI2⟩
        case measure=>have:=HLT.out;simp [intOf];omega
      ·have q1':(dk % 10 == 1)=false:=by simpa using q1
       clear q1
       by_cases q2:(dk % 10 == 2)=true
       ·as_aux_lemma=>
         have H1D:=xhd (H1.out.later ((Turned.refl [] wc).drew))
         have PC:=xhd (du_move H1D.out HC.out (by omega) d2 d1 hw2 hw1)
         obtain⟨y0,y1,y2,y3,y4⟩:=cells5c H1.out.box
         go_wp2_with fail
         clear y0 y1 y2 y3 y4
         obtain⟨y0,y1,y2,y3,y4⟩:=cells5c H1D.out.box
         go_region_held3 (fun V=>V.cell? ⟨z,2,none⟩=some (.int .i64 d2)∧V.cell? ⟨z,1,none⟩=some (.int .i64 d1))
          (first|exact⟨y2,y1⟩ |exact⟨v2,v1⟩ |exact⟨u2,u1⟩)
          (first
            |(go_at_call 11
              with_reducible refine PC.out.mono ?_
              rintro e V1 ⟨rfl,h2⟩
              have H2:=xhd h2
              have RC:=xhd (du_rmove H2.out HC.out d2 d1)
              obtain⟨_,v1,v2,_,_⟩:=cells5c H2.out.box
              clear h2)
            |(go_at_call 12
              with_reducible refine RC.out.mono ?_
              rintro e V2 ⟨rfl,h3⟩
              have H3:=xhd h3
              obtain⟨_,u1,u2,_,_⟩:=cells5c H3.out.box
              clear h3)
            |fail)
         all_goals
          clear y0 y1 y2 y3 y4 v1 v2 u1 u2
          have HC2:Hid (COk _ (8+i+1)):=xhd ((HC.out.moveC d2 d1).later (by omega))
          have HI2:=xhd (HI.out.moveC d2 d1)
          obtain⟨y0,y1,y2,y3,y4⟩:=cells5c H3.out.box
          have SM:=xhd (du_same H3.out HC2.out (by omega) HI2.out d2 hw2)
          go_wp2_with fail
          with_reducible refine SM.out.mono ?_
          rintro e V3 ⟨rfl,h4⟩
          have H4:=xhd h4
          have HC3:Hid (COk _ (8+((i+1:Nat):Int))):=xhd (by have:=HC2.out;rw [show (8:Int)+((i+1:Nat):Int)=8+i+1 by omega];exact this)
          clear h4 y0 y1 y2 y3 y4 SM HC2
          go_wp2
          go_roundw
          case rel=>exact⟨i+1,_,_,_,by have:=HLT.out;omega,by go_num,H4,HC3,HI2⟩
          case measure=>have:=HLT.out;simp [intOf];omega
       ·have q2':(dk % 10 == 2)=false:=by simpa using q2
        clear q2
        by_cases q3:(dk % 10 == 3)=true
        ·as_aux_lemma=>
          obtain⟨y0,y1,y2,y3,y4⟩:=cells5c H1.out.box
          have PC:=xhd (bal_sign HC.out ▸ du_bal H1.out HC.out (by omega))
          go_wp2_with fail
          with_reducible refine PC.out.mono ?_
          rintro e V1 ⟨rfl,h2⟩
          have H2:=xhd h2
          clear h2 PC
          clear y0 y1 y2 y3 y4
          obtain⟨y0,y1,y2,y3,y4⟩:=cells5c H2.out.box
          have RC:=xhd (du_rbal H2.out HC.out)
          go_wp2_with fail
          with_reducible refine RC.out.mono ?_
          rintro e V2 ⟨rfl,h3⟩
          have H3:=xhd h3
          clear h3 RC
          clear y0 y1 y2 y3 y4
          have HC2:Hid (COk _ (8+i+1)):=xhd (HC.out.balanceC.later (by omega))
          have HI2:=xhd (HI.out.balanceC)
          obtain⟨y0,y1,y2,y3,y4⟩:=cells5c H3.out.box
          have SM:=xhd (du_same H3.out HC2.out (by omega) HI2.out d2 hw2)
          go_wp2_with fail
          with_reducible refine SM.out.mono ?_
          rintro e V3 ⟨rfl,h4⟩
          have H4:=xhd h4
          have HC3:Hid (COk _ (8+((i+1:Nat):Int))):=xhd (by have:=HC2.out;rw [show (8:Int)+((i+1:Nat):Int)=8+i+1 by omega];exact this)
          clear h4 y0 y1 y2 y3 y4 SM HC2
          go_wp2
          go_roundw
          case rel=>exact⟨i+1,_,_,_,by have:=HLT.out;omega,by go_num,H4,HC3,HI2⟩
          case measure=>have:=HLT.out;simp [intOf];omega
        ·have q3':(dk % 10 == 3)=false:=by simpa using q3
         clear q3
         by_cases q4:(dk % 10 == 4)=true
         ·as_aux_lemma=>
           obtain⟨y0,y1,y2,y3,y4⟩:=cells5c H1.out.box
           have RO:=xhd (du_rof H1.out d2)
           have PC:=xhd (of_sign l d2 ▸ du_weigh H1.out HC.out (by omega) d2 d4 hw2 hw4)
           cases ho:ofN l d2 with
           |none=>
            rw [ofC_none ho] at RO PC
            have ew:weighC l d2 d4=l:=by unfold weighC;rw [ho]
            rw [ew] at PC
            clear ho ew
            go_wp2_with fail
            with_reducible refine RO.out.mono ?_
            rintro e V1 ⟨rfl,rfl⟩
            go_wp2_with fail
            with_reducible refine PC.out.mono ?_
            rintro e V2 ⟨rfl,h3⟩
            have H3:=xhd h3
            clear h3 PC RO
            clear y0 y1 y2 y3 y4
            have HC2:Hid (COk _ (8+i+1)):=xhd (HC.out.later (by omega))
            have HI2:=HI
            obtain⟨y0,y1,y2,y3,y4⟩:=cells5c H3.out.box
            have SM:=xhd (du_same H3.out HC2.out (by omega) HI2.out d2 hw2)
            go_wp2_with fail
            with_reducible refine SM.out.mono ?_
            rintro e V3 ⟨rfl,h4⟩
            have H4:=xhd h4
            have HC3:Hid (COk _ (8+((i+1:Nat):Int))):=xhd (by have:=HC2.out;rw [show (8:Int)+((i+1:Nat):Int)=8+i+1 by omega];exact this)
            clear h4 y0 y1 y2 y3 y4 SM HC2
            go_wp2
            go_roundw
            case rel=>exact⟨i+1,_,_,_,by have:=HLT.out;omega,by go_num,H4,HC3,HI2⟩
            case measure=>have:=HLT.out;simp [intOf];omega
           |some k=>
            rw [ofC_some ho] at RO PC
            obtain⟨q,hq,_,_⟩:=ofN_some ho
            have hk:k < l.length:=(List.getElem?_eq_some_iff.1 hq).1
            have ew:weighC l d2 d4=l.set k (q.weigh d2 d4):=by unfold weighC;rw [ho];exact modify_set hq _
            have HC2:Hid (COk (l.set k (q.weigh d2 d4)) (8+i+1)):=xhd (ew ▸ (HC.out.weighC (by omega) d2 d4).later (by omega))
            have HI2:Hid (IdsC (l.set k (q.weigh d2 d4))):=xhd (ew ▸ HI.out.weighC d2 d4)
            rw [ew] at PC
            have HQ:=xhd hq
            have hqk:=xhd (HC.out.ok q (mem_at hq))
            clear ho ew hq
            go_wp2_with fail
            with_reducible refine RO.out.mono ?_
            rintro e V1 ⟨rfl,rfl⟩
            go_wp2_with fail
            with_reducible refine PC.out.mono ?_
            rintro e V2 ⟨rfl,h2⟩
            have H2:=xhd h2
            clear h2 PC RO
            clear y0 y1 y2 y3 y4
            have HA:=du_at (H2.out.later ((Turned.refl [] V2).drew)) HQ.out
            obtain⟨g,cg,dq2,Y2,c0,cp,r16,hset⟩:=HA
            have c0':V2.cell? ⟨d,0,none⟩=some (.slice (some ⟨g,0,none⟩) l.length cg):=c0
            have cp':V2.cell? ⟨g,k,none⟩=some (.pointer (some ⟨dq2,0,none⟩)):=cp
            have i0:(0:Int)≤k:=by omega
            have i1:(k:Int) < l.length:=by omega
            have RC:=xhd (rweigh_any r16 hqk.out.uniq hqk.out.f d2 d4)
            have HSET:=xhd (fun W' a t n=>(hset W' Y2 (q.weigh d2 d4) a t n).1)
            clear c0 cp r16 hset
            obtain⟨y0,y1,y2,y3,y4⟩:=cells5c H2.out.box
            go_upto_region 33 with (fail)
            go_still_tail 11,(by kernel_rfl)
            change wpList _ _ _ _ _ V2.drew
            generalize V2.drew=V2d at RC HSET ⊢
            go_wp2_with fail
            with_reducible refine RC.out.mono ?_
            rintro e V3 ⟨rfl,a3,t3⟩
            have H3:=xhd (HSET.out _ a3 t3 (Newer.refl _ _))
            clear a3 t3 c0' cp' RC HSET y0 y1 y2 y3 y4
            obtain⟨y0,y1,y2,y3,y4⟩:=cells5c H3.out.box
            have SM:=xhd (du_same H3.out HC2.out (by omega) HI2.out d2 hw2)
            go_wp2_with fail
            with_reducible refine SM.out.mono ?_
            rintro e V3 ⟨rfl,h4⟩
            have H4:=xhd h4
            have HC3:Hid (COk _ (8+((i+1:Nat):Int))):=xhd (by have:=HC2.out;rw [show (8:Int)+((i+1:Nat):Int)=8+i+1 by omega];exact this)
            clear h4 y0 y1 y2 y3 y4 SM HC2
            go_wp2
            go_roundw
            case rel=>exact⟨i+1,_,_,_,by have:=HLT.out;omega,by go_num,H4,HC3,HI2⟩
            case measure=>have:=HLT.out;simp [intOf];omega
         ·have q4':(dk % 10 == 4)=false:=by simpa using q4
          clear q4
          by_cases q5:(dk % 10 == 5)=true
          ·as_aux_lemma=>
            obtain⟨y0,y1,y2,y3,y4⟩:=cells5c H1.out.box
            have PC:=xhd (du_settle H1.out HC.out (by omega))
            have HC2:Hid (COk (l.map Rq.settle) (8+i+1)):=xhd (HC.out.settleC.later (by omega))
            have HI2:=xhd HI.out.settleC
            go_wp2_with fail
            with_reducible refine PC.out.mono ?_
            rintro e V1 ⟨rfl,h2⟩
            have H2:=xhd h2
            clear h2 PC
            clear y0 y1 y2 y3 y4
            obtain⟨g,cg,c0⟩:=du_len H2.out (by omega)
            have HC0:=xhd c0
            go_wp2_with fail
            go_loopw [228] (fun jv V=>∃j:Nat,j≤l.length∧jv= .int .i64 j∧Hid (DuB S C w V b d z (.cells #[.int .u8 dk, .int .i64 d1, .int .i64 d2, .int .u64 d3, .int .i64 d4] 31 (0,0)) (l.map Rq.settle) ((l.take j).map Rq.settle++l.drop j))∧Hid (V.cell? ⟨d,0,none⟩=some (.slice (some ⟨g,0,none⟩) l.length cg))) (fun jv _=>l.length - (intOf jv).toNat)
            case atStart=>exact⟨0,Nat.zero_le _,rfl,xhd (by simpa using H2.out),HC0⟩
            case round=>
             clear H2 HC0 c0
             obtain⟨j,hj,rfl,HJ,HC0⟩:=hrel
             by_cases hjl:j < l.length
             ·have hq:l[j]?=some l[j]:=List.getElem?_eq_getElem hjl
              obtain⟨q,hqq⟩:∃q,l[j]=q:=⟨_,rfl⟩
              rw [hqq] at hq
              obtain⟨g',cg',dq2,Y2,c0,cp,r16,hset⟩:=du_at HJ.out (settle_at hq)
              have eg:g'=g∧cg'=cg:=by
               rw [HC0.out] at c0
               simp only [Option.some.injEq,Value.slice.injEq,Addr.mk.injEq] at c0
               exact⟨c0.1.1.symm,c0.2.2.symm⟩
              obtain⟨rfl,rfl⟩:=eg
              have RC:=xhd (rsettle_any r16)
              have HSET:=xhd (fun W' a t n=>hset W' Y2 q.settle a t n)
              have HST:=xhd (settle_step hq)
              have HLJ:=xhd hjl
              have HSL:=xhd (settle_len l j)
              have i0:(0:Int)≤j:=by omega
              have i1:(j:Int) < l.length:=by omega
              clear hq hqq r16 hset hj hjl c0
              go_wp2_with fail
              with_reducible refine RC.out.mono ?_
              rintro e V3 ⟨rfl,a3,t3⟩
              have H3:=HSET.out _ a3 t3 (Newer.refl _ _)
              rw [HST.out,HSL.out] at H3
              have H3:=xhd H3
              clear a3 t3 cp RC HSET
              go_wp2
              go_roundw
              case rel=>exact⟨j+1,HLJ.out,by go_num,xhd H3.out.1,xhd H3.out.2⟩
              case measure=>have:=HLJ.out;simp [intOf];omega
             ·have H3:Hid (DuB S C w wr b d z (.cells #[.int .u8 dk, .int .i64 d1, .int .i64 d2, .int .u64 d3, .int .i64 d4] 31 (0,0)) (l.map Rq.settle) (l.map Rq.settle)):=xhd (by
                have h:=HJ.out
                rw [List.take_of_length_le (by omega),List.drop_of_length_le (by omega),List.append_nil] at h
                exact h)
              have hjn:j=l.length:=by omega
              subst hjn
              clear HJ HC0
              obtain⟨y0,y1,y2,y3,y4⟩:=cells5c H3.out.box
              have SM:=xhd (du_same H3.out HC2.out (by omega) HI2.out d2 hw2)
              go_wp2_with fail
              with_reducible refine SM.out.mono ?_
              rintro e V3 ⟨rfl,h4⟩
              have H4:=xhd h4
              have HC3:Hid (COk _ (8+((i+1:Nat):Int))):=xhd (by have:=HC2.out;rw [show (8:Int)+((i+1:Nat):Int)=8+i+1 by omega];exact this)
              clear h4 y0 y1 y2 y3 y4 SM HC2
              go_wp2
              go_roundw
              case rel=>exact⟨i+1,_,_,_,by have:=HLT.out;omega,by go_num,H4,HC3,HI2⟩
              case measure=>have:=HLT.out;simp [intOf];omega
          ·have q5':(dk % 10 == 5)=false:=by simpa using q5
           clear q5
           by_cases q6:(dk % 10 == 6)=true
           ·as_aux_lemma=>
             cases a1:decide (0≤d1)&&decide (d1 < (l.length:Int)) with
             |false=>
              have H3:=H1
              have HC2:Hid (COk _ (8+i+1)):=xhd (HC.out.later (by omega))
              have HI2:=HI
              clear a1
              obtain⟨y0,y1,y2,y3,y4⟩:=cells5c H3.out.box
              have SM:=xhd (du_same H3.out HC2.out (by omega) HI2.out d2 hw2)
              go_wp2_with fail
              with_reducible refine SM.out.mono ?_
              rintro e V3 ⟨rfl,h4⟩
              have H4:=xhd h4
              have HC3:Hid (COk _ (8+((i+1:Nat):Int))):=xhd (by have:=HC2.out;rw [show (8:Int)+((i+1:Nat):Int)=8+i+1 by omega];exact this)
              clear h4 y0 y1 y2 y3 y4 SM HC2
              go_wp2
              go_roundw
              case rel=>exact⟨i+1,_,_,_,by have:=HLT.out;omega,by go_num,H4,HC3,HI2⟩
              case measure=>have:=HLT.out;simp [intOf];omega
             |true=>
              rw [Bool.and_eq_true,decide_eq_true_eq,decide_eq_true_eq] at a1
              obtain⟨k,rfl⟩:∃k:Nat,d1=k:=⟨d1.toNat,by omega⟩
              have hk:k < l.length:=by omega
              have hq:l[k]?=some l[k]:=List.getElem?_eq_getElem hk
              obtain⟨q,hqq⟩:∃q,l[k]=q:=⟨_,rfl⟩
              rw [hqq] at hq
              have HQ:=xhd hq
              have hqk:=xhd (HC.out.ok q (mem_at hq))
              have HC2:Hid (COk (l.set k (q.pick)) (8+i+1)):=xhd (modify_set hq _ ▸ (HC.out.pickC k).later (by omega))
              have HI2:Hid (IdsC (l.set k (q.pick))):=xhd (modify_set hq _ ▸ HI.out.ids k _ (fun q=>by rw [pick_l]))
              have PC:=xhd (du_queue H1.out HC.out (by omega) hk)
              obtain⟨y0,y1,y2,y3,y4⟩:=cells5c H1.out.box
              clear a1 hqq hq
              go_wp2_with fail
              with_reducible refine PC.out.mono ?_
              rintro e V1 ⟨dq,rfl,h2⟩
              have HV1:=xhd h2
              have PK:=xhd (du_pick HV1.out HC.out (by omega) HQ.out)
              clear h2 y0 y1 y2 y3 y4 PC
              go_wp2_with fail
              with_reducible refine PK.out.mono ?_
              rintro e V2 ⟨rfl,h2⟩
              have H2:=xhd h2
              clear h2 PK
              have HA:=du_at (H2.out.later ((Turned.refl [] V2).drew)) HQ.out
              obtain⟨g,cg,dq2,Y2,c0,cp,r16,hset⟩:=HA
              have c0':V2.cell? ⟨d,0,none⟩=some (.slice (some ⟨g,0,none⟩) l.length cg):=c0
              have cp':V2.cell? ⟨g,k,none⟩=some (.pointer (some ⟨dq2,0,none⟩)):=cp
              have i0:(0:Int)≤k:=by omega
              have i1:(k:Int) < l.length:=by omega
              have RC:=xhd (rpick_any r16 hqk.out.uniq (Nat.le_trans hqk.out.len (by decide)))
              have HSET:=xhd (fun W' a t n=>(hset W' Y2 (q.pick) a t n).1)
              clear c0 cp r16 hset
              obtain⟨y0,y1,y2,y3,y4⟩:=cells5c H2.out.box
              go_upto_region 44 with (fail)
              go_still_tail 8,(by kernel_rfl)
              change wpList _ _ _ _ _ V2.drew
              generalize V2.drew=V2d at RC HSET ⊢
              go_wp2_with fail
              with_reducible refine RC.out.mono ?_
              rintro e V3 ⟨rfl,a3,t3⟩
              have H3:=xhd (HSET.out _ a3 t3 (Newer.refl _ _))
              clear a3 t3 c0' cp' RC HSET y0 y1 y2 y3 y4
              obtain⟨y0,y1,y2,y3,y4⟩:=cells5c H3.out.box
              have SM:=xhd (du_same H3.out HC2.out (by omega) HI2.out d2 hw2)
              go_wp2_with fail
              with_reducible refine SM.out.mono ?_
              rintro e V3 ⟨rfl,h4⟩
              have H4:=xhd h4
              have HC3:Hid (COk _ (8+((i+1:Nat):Int))):=xhd (by have:=HC2.out;rw [show (8:Int)+((i+1:Nat):Int)=8+i+1 by omega];exact this)
              clear h4 y0 y1 y2 y3 y4 SM HC2
              go_wp2
              go_roundw
              case rel=>exact⟨i+1,_,_,_,by have:=HLT.out;omega,by go_num,H4,HC3,HI2⟩
              case measure=>have:=HLT.out;simp [intOf];omega
           ·have q6':(dk % 10 == 6)=false:=by simpa using q6
            clear q6
            by_cases q7:(dk % 10 == 7)=true
            ·as_aux_lemma=>
              cases a1:decide (0≤d1)&&decide (d1 < (l.length:Int)) with
              |false=>
               have H3:=H1
               have HC2:Hid (COk _ (8+i+1)):=xhd (HC.out.later (by omega))
               have HI2:=HI
               clear a1
               obtain⟨y0,y1,y2,y3,y4⟩:=cells5c H3.out.box
               have SM:=xhd (du_same H3.out HC2.out (by omega) HI2.out d2 hw2)
               go_wp2_with fail
               with_reducible refine SM.out.mono ?_
               rintro e V3 ⟨rfl,h4⟩
               have H4:=xhd h4
               have HC3:Hid (COk _ (8+((i+1:Nat):Int))):=xhd (by have:=HC2.out;rw [show (8:Int)+((i+1:Nat):Int)=8+i+1 by omega];exact this)
               clear h4 y0 y1 y2 y3 y4 SM HC2
               go_wp2
               go_roundw
               case rel=>exact⟨i+1,_,_,_,by have:=HLT.out;omega,by go_num,H4,HC3,HI2⟩
               case measure=>have:=HLT.out;simp [intOf];omega
              |true=>
               rw [Bool.and_eq_true,decide_eq_true_eq,decide_eq_true_eq] at a1
               obtain⟨k,rfl⟩:∃k:Nat,d1=k:=⟨d1.toNat,by omega⟩
               have hk:k < l.length:=by omega
               have hq:l[k]?=some l[k]:=List.getElem?_eq_getElem hk
               obtain⟨q,hqq⟩:∃q,l[k]=q:=⟨_,rfl⟩
               rw [hqq] at hq
               have HQ:=xhd hq
               have hqk:=xhd (HC.out.ok q (mem_at hq))
               have HC2:Hid (COk (l.set k (q.back)) (8+i+1)):=xhd (modify_set hq _ ▸ (HC.out.backC k).later (by omega))
               have HI2:Hid (IdsC (l.set k (q.back))):=xhd (modify_set hq _ ▸ HI.out.ids k _ (fun q=>by rw [back_l]))
               have PC:=xhd (du_queue H1.out HC.out (by omega) hk)
               obtain⟨y0,y1,y2,y3,y4⟩:=cells5c H1.out.box
               clear a1 hqq hq
               go_wp2_with fail
               with_reducible refine PC.out.mono ?_
               rintro e V1 ⟨dq,rfl,h2⟩
               have HV1:=xhd h2
               have PK:=xhd (du_back HV1.out HC.out (by omega) HQ.out)
               clear h2 y0 y1 y2 y3 y4 PC
               go_wp2_with fail
               with_reducible refine PK.out.mono ?_
               rintro e V2 ⟨rfl,h2⟩
               have H2:=xhd h2
               clear h2 PK
               have HA:=du_at (H2.out.later ((Turned.refl [] V2).drew)) HQ.out
               obtain⟨g,cg,dq2,Y2,c0,cp,r16,hset⟩:=HA
               have c0':V2.cell? ⟨d,0,none⟩=some (.slice (some ⟨g,0,none⟩) l.length cg):=c0
               have cp':V2.cell? ⟨g,k,none⟩=some (.pointer (some ⟨dq2,0,none⟩)):=cp
               have i0:(0:Int)≤k:=by omega
               have i1:(k:Int) < l.length:=by omega
               have RC:=xhd (rback_any r16)
               have HSET:=xhd (fun W' a t n=>(hset W' Y2 (q.back) a t n).1)
               clear c0 cp r16 hset
               obtain⟨y0,y1,y2,y3,y4⟩:=cells5c H2.out.box
               go_upto_region 48 with (fail)
               go_still_tail 8,(by kernel_rfl)
               change wpList _ _ _ _ _ V2.drew
               generalize V2.drew=V2d at RC HSET ⊢
               go_wp2_with fail
               with_reducible refine RC.out.mono ?_
               rintro e V3 ⟨rfl,a3,t3⟩
               have H3:=xhd (HSET.out _ a3 t3 (Newer.refl _ _))
               clear a3 t3 c0' cp' RC HSET y0 y1 y2 y3 y4
               obtain⟨y0,y1,y2,y3,y4⟩:=cells5c H3.out.box
               have SM:=xhd (du_same H3.out HC2.out (by omega) HI2.out d2 hw2)
               go_wp2_with fail
               with_reducible refine SM.out.mono ?_
               rintro e V3 ⟨rfl,h4⟩
               have H4:=xhd h4
               have HC3:Hid (COk _ (8+((i+1:Nat):Int))):=xhd (by have:=HC2.out;rw [show (8:Int)+((i+1:Nat):Int)=8+i+1 by omega];exact this)
               clear h4 y0 y1 y2 y3 y4 SM HC2
               go_wp2
               go_roundw
               case rel=>exact⟨i+1,_,_,_,by have:=HLT.out;omega,by go_num,H4,HC3,HI2⟩
               case measure=>have:=HLT.out;simp [intOf];omega
            ·have q7':(dk % 10 == 7)=false:=by simpa using q7
             clear q7
             as_aux_lemma=>
              cases a1:decide (0≤d1)&&decide (d1 < (l.length:Int)) with
              |false=>
               have H3:=H1
               have HC2:Hid (COk _ (8+i+1)):=xhd (HC.out.later (by omega))
               have HI2:=HI
               clear a1
               obtain⟨y0,y1,y2,y3,y4⟩:=cells5c H3.out.box
               have SM:=xhd (du_same H3.out HC2.out (by omega) HI2.out d2 hw2)
               go_wp2_with fail
               with_reducible refine SM.out.mono ?_
               rintro e V3 ⟨rfl,h4⟩
               have H4:=xhd h4
               have HC3:Hid (COk _ (8+((i+1:Nat):Int))):=xhd (by have:=HC2.out;rw [show (8:Int)+((i+1:Nat):Int)=8+i+1 by omega];exact this)
               clear h4 y0 y1 y2 y3 y4 SM HC2
               go_wp2
               go_roundw
               case rel=>exact⟨i+1,_,_,_,by have:=HLT.out;omega,by go_num,H4,HC3,HI2⟩
               case measure=>have:=HLT.out;simp [intOf];omega
              |true=>
               rw [Bool.and_eq_true,decide_eq_true_eq,decide_eq_true_eq] at a1
               obtain⟨k,rfl⟩:∃k:Nat,d1=k:=⟨d1.toNat,by omega⟩
               have hk:k < l.length:=by omega
               have hq:l[k]?=some l[k]:=List.getElem?_eq_getElem hk
               obtain⟨q,hqq⟩:∃q,l[k]=q:=⟨_,rfl⟩
               rw [hqq] at hq
               have HQ:=xhd hq
               have hqk:=xhd (HC.out.ok q (mem_at hq))
               have HC2:Hid (COk (l.set k (q.tick)) (8+i+1)):=xhd (modify_set hq _ ▸ HC.out.tickC k)
               have HI2:Hid (IdsC (l.set k (q.tick))):=xhd (modify_set hq _ ▸ HI.out.ids k _ (fun q=>tick_ids q))
               have PC:=xhd (du_queue H1.out HC.out (by omega) hk)
               obtain⟨y0,y1,y2,y3,y4⟩:=cells5c H1.out.box
               clear a1 hqq hq
               go_wp2_with fail
               with_reducible refine PC.out.mono ?_
               rintro e V1 ⟨dq,rfl,h2⟩
               have HV1:=xhd h2
               have PK:=xhd (du_tick HV1.out HC.out (by omega) HQ.out)
               clear h2 y0 y1 y2 y3 y4 PC
               go_wp2_with fail
               with_reducible refine PK.out.mono ?_
               rintro e V2 ⟨rfl,h2⟩
               have H2:=xhd h2
               clear h2 PK
               have HA:=du_at (H2.out.later ((Turned.refl [] V2).drew)) HQ.out
               obtain⟨g,cg,dq2,Y2,c0,cp,r16,hset⟩:=HA
               have c0':V2.cell? ⟨d,0,none⟩=some (.slice (some ⟨g,0,none⟩) l.length cg):=c0
               have cp':V2.cell? ⟨g,k,none⟩=some (.pointer (some ⟨dq2,0,none⟩)):=cp
               have i0:(0:Int)≤k:=by omega
               have i1:(k:Int) < l.length:=by omega
               have RC:=xhd (rtick_any r16 hqk.out.uniq hqk.out.cur hqk.out.v hqk.out.ran.1 (by have:=hqk.out.ran.2;omega))
               have HSET:=xhd (fun W' a t n=>(hset W' Y2 (q.tick) a t n).1)
               clear c0 cp r16 hset
               obtain⟨y0,y1,y2,y3,y4⟩:=cells5c H2.out.box
               go_upto_region 14 with (fail)
               go_still_tail 8,(by kernel_rfl)
               change wpList _ _ _ _ _ V2.drew
               generalize V2.drew=V2d at RC HSET ⊢
               go_wp2_with fail
               with_reducible refine RC.out.mono ?_
               rintro e V3 ⟨rfl,a3,t3⟩
               have H3:=xhd (HSET.out _ a3 t3 (Newer.refl _ _))
               clear a3 t3 c0' cp' RC HSET y0 y1 y2 y3 y4
               obtain⟨y0,y1,y2,y3,y4⟩:=cells5c H3.out.box
               have SM:=xhd (du_same H3.out HC2.out (by omega) HI2.out d2 hw2)
               go_wp2_with fail
               with_reducible refine SM.out.mono ?_
               rintro e V3 ⟨rfl,h4⟩
               have H4:=xhd h4
               have HC3:Hid (COk _ (8+((i+1:Nat):Int))):=xhd (by have:=HC2.out;rw [show (8:Int)+((i+1:Nat):Int)=8+i+1 by omega];exact this)
               clear h4 y0 y1 y2 y3 y4 SM HC2
               go_wp2
               go_roundw
               case rel=>exact⟨i+1,_,_,_,by have:=HLT.out;omega,by go_num,H4,HC3,HI2⟩
               case measure=>have:=HLT.out;simp [intOf];omega
   ·obtain rfl:i=n:=by omega
    have HT:=xhd HD.out.t
    go_wp2
    go_ret
    exact⟨rfl,HT.out⟩
end Go.Proofs.YtfmciiffcmfagaaGreat
