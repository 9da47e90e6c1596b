/-
  RunqOnce: the walk, given what is said of the program's queues and of unit's Core. (Made by gen_rqonce.py.)
  RunqOnce's row, given what is said of the program's queues and of its unit.
-/
import Derived.Test.YtbfifglcnhfccaaZAP
import Derived.Laws.MakeOwn
import Derived.OwnWalk
import Derived.Test.YtbfifglcnhfccaaZAO
import Derived.Test.YtbfifglcnhfccaaZAl
set_option maxRecDepth 100000
set_option maxHeartbeats 25600000
namespace Go.Proofs.Ytbfifglcnhfccaa
open Go.RowKit
theorem infoU64:(Try.prog.info? 28).map (fun i=>(i.zero,i.size,i.bytes))=some (some (.int .u64 0),1,8):=by kernel_rfl
def wasV (q:Rq) (i:Nat):List Value:=(List.range i).map fun j=> .int .u64 (vAt q j)
theorem wasV_succ (q:Rq) (i:Nat):wasV q (i+1)=wasV q i++[.int .u64 (vAt q i)]:=by simp [wasV,List.range_succ]
theorem wasV_at (q:Rq) {i n:Nat} (h:i < n):(wasV q n)[i]?=some (.int .u64 (vAt q i)):=by simp [wasV,h]
theorem rqonce_walk (S:RqSaid) (HCore:∀(n:Int) (w:World),Calls Try.prog 38 #[.int .i64 n] w fun e w'=>e= .returned (.int .u64 (coreR n))∧Turned [] w w')
  (gr:Int) (ao:Option Addr) (lb off n cap:Nat) (ws:Nat→Int) (m:Nat) (w:World) (hgr:isI gr) (hao:0 < n→ao=some ⟨lb,off,none⟩∧lb < w.heap.size)
  (hE:∀i,i < n→w.cell? ⟨lb,off+i,none⟩=some (.int .u8 (ws i))) (hW:∀i,i < n→0≤ws i∧ws i≤255) (hn:n≤maxLen) (hm:m≤255):
  Calls Try.prog 7 #[.int .i64 gr, .slice ao n cap, .int .u8 m] w fun r w'=>r= .returned (.bool true)∧Turned [] w w':=by
 unfold maxLen at hn
 have HE:=xhd hE
 have HAO:=xhd hao
 have HWf:=xhd hW
 have AW:=xhd (awake16 S w)
 have HNP:=xhd (fun V=>S.new gr V hgr)
 clear hE hao hW hgr
 by_cases hbig:16 < n∨60 < m
 ·by_cases h16:16 < n
  ·have h16z:(16:Int) < (n:Int):=by omega
   go_enter Try.func7,Try.ntmps7
   go_wp2_with fail
   with_reducible refine AW.out.mono ?_
   rintro e w0 ⟨rfl,t0⟩
   have T0:=xhd t0
   clear t0
   go_wp2
   go_ret
   exact⟨rfl,T0.out⟩
  ·have h16z:¬(16:Int) < (n:Int):=by omega
   have h60:(60:Int) < (m:Int):=by omega
   go_enter Try.func7,Try.ntmps7
   go_wp2_with fail
   with_reducible refine AW.out.mono ?_
   rintro e w0 ⟨rfl,t0⟩
   have T0:=xhd t0
   clear t0
   go_wp2
   go_ret
   exact⟨rfl,T0.out⟩
 ·have h16:n≤16:=by omega
  have h60:m≤60:=by omega
  have h16z:¬(16:Int) < (n:Int):=by omega
  have h60z:¬(60:Int) < (m:Int):=by omega
  obtain⟨ii,hi,hz0,hz1,hz2⟩:=info_parts infoU64
  clear hbig hn hm
  go_enter Try.func7,Try.ntmps7
  go_wp2_with fail
  with_reducible refine AW.out.mono ?_
  rintro e w0 ⟨rfl,t0⟩
  have T0:=xhd t0
  clear t0 AW
  go_wp2_with fail
  with_reducible refine (HNP.out _).mono ?_
  rintro e w1 ⟨b,X0,rfl,a1,t1,n1⟩
  have P0:=xhd (ply_new S ws a1 T0.out t1 n1)
  clear a1 t1 n1 HNP T0
  go_wp2_with fail
  go_loopw [33] (fun iv V=>∃(i:Nat) (X:List Nat) (q:Rq),i≤n∧iv= .int .i64 i∧Hid (PlyQ S w V b X q i ws 0 8)) (fun iv _=>n - (intOf iv).toNat)
  case atStart=>exact⟨0,X0,_,Nat.zero_le _,rfl,P0⟩
  case round=>
   clear P0
   obtain⟨i,X,q,hin,rfl,HP⟩:=hrel
   by_cases hlt:i < n
   ·obtain⟨rfl,hlb⟩:=HAO.out (by omega)
    have hcell:=HE.out i hlt
    obtain⟨hw0,hw1⟩:=HWf.out i hlt
    rw [←(HP.out.t.below (B:=w.heap.size) (by simp) (Nat.le_refl _)).cell (p:=⟨lb,off+i,none⟩) hlb] at hcell
    have i1:(i:Int) < n:=by omega
    have i16:i < 16:=by omega
    have HLT:=xhd hlt
    have HWI:Hid (isI (ws i)):=xhd ⟨by omega,by omega⟩
    have HII:Hid (isI (i:Int)):=xhd ⟨by omega,by omega⟩
    have hwr1:IntKind.u64.wrap (i:Int)=i:=by rw [IntKind.wrap_u64];omega
    have hwr2:IntKind.i64.wrap (ws i)=ws i:=by rw [IntKind.wrap_i64];omega
    have HAD:=xhd (S.add (i:Int) ((i:Int)*1073741824) (ws i) HP.out.at_ HP.out.ok (by omega) HII.out HWI.out ⟨by omega,by omega⟩)
    have HST:=xhd (fun V X' (a:S.At V b X' (q.add i ((i:Int)*1073741824) (ws i))) t n'=>HP.out.add (by omega) i16 (v:=(i:Int)*1073741824) ⟨by omega,by omega⟩ a t n')
    obtain⟨wi,hwi⟩:∃wi,ws i=wi:=⟨_,rfl⟩
    rw [hwi] at hcell hw0 hw1 hwr2 HAD HST
    clear hwi
    go_wp2_with fail
    with_reducible refine HAD.out.mono ?_
    rintro e V1 ⟨rfl,X1,a1,t1,n1⟩
    have P1:=xhd (HST.out V1 X1 a1 t1 n1)
    clear a1 t1 n1
    go_wp2
    go_roundw
    case rel=>exact⟨i+1,X1,_,by have:=HLT.out;omega,by go_num,P1⟩
    case measure=>have:=HLT.out;simp [intOf];omega
   ·obtain rfl:i=n:=by omega
    go_wp2_with fail
    go_loopw [48] (fun jv V=>∃(j:Nat) (X:List Nat) (q:Rq),j≤m∧jv= .int .u8 j∧Hid (PlyQ S w V b X q i ws (17592186044416*(j:Int)) (8+j))) (fun jv _=>m - (intOf jv).toNat)
    case atStart=>exact⟨0,X,q,Nat.zero_le _,rfl,by simpa using HP⟩
    case round=>
     clear HP X q
     obtain⟨j,X,q,hjm,rfl,HP⟩:=hrel
     by_cases hjl:j < m
     ·have j1:(j:Int) < m:=by omega
      have HJL:=xhd hjl
      have HBB:Hid ((17592186044416:Int)*(j:Int)≤9223372036854775808):=xhd (by omega)
      have hX0:∀x ∈ X,x < wr.heap.size:=S.lt HP.out.at_
      have HX0:=xhd hX0
      have hN0:w.heap.size≤wr.heap.size:=HP.out.t.size
      have HNE:=xhd hN0
      obtain⟨N,hN⟩:∃N,wr.heap.size=N:=⟨_,rfl⟩
      rw [hN] at HX0 HNE
      have HNN:Hid (N≤wr.heap.size):=xhd (by rw [hN];exact Nat.le_refl _)
      clear hX0 hN0 hN hjl
      go_wp2_with fail
      go_loopw [10,52] (fun o kv V=>∃k:Nat,k≤i∧kv= .int .i64 k∧Hid (V.ownsRow N 28 1 o k (wasV q k))∧Hid (PlyQ S w V b X q i ws (17592186044416*(j:Int)) (8+j))∧Hid (N≤V.heap.size)) (fun _ kv _=>i - (intOf kv).toNat)
      case atStart=>exact⟨0,Nat.zero_le _,rfl,xhd (World.ownsRow_nil _ _ _ _),HP,HNN⟩
      case round=>
       clear HP HNN
       obtain⟨k,hki,rfl,HRW,HP,HNV⟩:=hrel
       by_cases hkl:k < i
       ·have k1:(k:Int) < i:=by omega
        have HKL:=xhd hkl
        obtain⟨e1,e2⟩:=HP.out.vv hkl
        have HV:=S.vv (k:Int) HP.out.at_ HP.out.ok (by omega) ⟨by omega,by omega⟩
        rw [e1,e2] at HV
        have HV:=xhd HV
        have HSU:=xhd (wasV_succ q k)
        obtain⟨vk,hvk⟩:∃vk,vAt q k=vk:=⟨_,rfl⟩
        rw [hvk] at HV HSU
        obtain⟨av,cv,hov,_,_⟩:=ownsRow_shape HRW.out
        subst hov
        clear e1 e2 hkl hvk
        go_wp2_with fail
        with_reducible refine HV.out.mono ?_
        rintro e V1 ⟨rfl,t1⟩
        have P1:=xhd (HP.out.later t1)
        have R1:=xhd (ownsRow_same HRW.out fun g _ hl=>t1.block g hl (by simp))
        have NV1:Hid (N≤V1.heap.size):=xhd (Nat.le_trans HNV.out t1.size)
        clear t1
        go_wp2_with (at_builtin;refine wpList_append_own _ rfl _ _ 62 rfl N 28 ii (.int .u64 0) 1 8 Try.underlying62 hi hz0 hz1 hz2 rfl (by decide) _ _ _ rfl (R1.out.alloc _) ⟨V1.heap.size,0,none⟩ 1 1 [.int .u64 vk] rfl rfl ?c1 ?c2 ?c3 ?c4 ?c5 ?_)
        case c1=>
         intro j' u hj
         match j',hj with
         |0,hj=>simp at hj;subst hj;simp [Addr.add]
        case c2=>intro u hu;simp at hu;subst hu;rfl
        case c3=>unfold maxLen;omega
        case c4=>omega
        case c5=>have:=NV1.out;simp;omega
        intro v' V2 hown2 hgrow _
        have R2:Hid (V2.ownsRow N 28 1 v' (k+1) (wasV q (k+1))):=xhd (by rw [HSU.out];exact hown2)
        have P2:=xhd (P1.out.grow S.offU R1.out HX0.out HNE.out ((Turned.refl [] V1).alloc _) hgrow)
        have NV2:Hid (N≤V2.heap.size):=xhd (Nat.le_trans NV1.out (Nat.le_trans ((Turned.refl [] V1).alloc _).size hgrow.size))
        clear hown2 hgrow
        go_wp2
        go_roundw
        case rel=>exact⟨k+1,by have:=HKL.out;omega,by go_num,R2,P2,NV2⟩
        case measure=>have:=HKL.out;simp [intOf];omega
       ·obtain rfl:k=i:=by omega
        have HGO:=xhd (goon_any S HP.out.at_ HP.out.ok (by omega))
        have HWN:=xhd (fun h0:0 < k=>HP.out.who h0)
        have HNB:Hid (k=0→q.who= -1):=xhd fun h0=>by subst h0;exact HP.out.nobody
        have HPY:=xhd (fun i' (hi':i' < k)=>HP.out.pays HBB.out (i:=i') hi')
        have HWD:=xhd (fun i' (hi':i' < k)=>HP.out.word (i:=i') hi')
        obtain⟨z,hz⟩:∃z,q.who=z:=⟨_,rfl⟩
        rw [hz] at HGO HWN HNB HPY
        obtain⟨av,cv,hov,_,_⟩:=ownsRow_shape HRW.out
        subst hov
        clear hz
        go_wp2_with fail
        with_reducible refine HGO.out.mono ?_
        rintro e V1 ⟨rfl,X1,a1,t1,n1⟩
        have P1:=xhd (HP.out.go HBB.out a1 t1 n1)
        have R1:=xhd (ownsRow_same HRW.out fun g hg hl=>t1.block g hl (fun hx=>by have:=HX0.out g hx;have:=(HRW.out.lt g (by simpa using hg)).1;omega))
        clear a1 t1 n1
        by_cases hk0:k=0
        ·have hz:=HNB.out hk0
         subst hk0 hz
         have HT:=xhd P1.out.t
         go_wp2
         go_ret
         exact⟨rfl,HT.out⟩
        ·obtain⟨z0,z1⟩:=HWN.out (by omega)
         have hkz:((k:Int) == 0)=false:=by simp;omega
         go_wp2_with fail
         go_loopw [75] (fun pv V=>∃p:Nat,p≤k∧pv= .int .i64 p∧Hid (V.ownsRow N 28 1 (.slice av k cv) k (wasV q k))∧Hid (PlyQ S w V b X1 q.go k ws (17592186044416*(j:Int)+17592186044416) (8+j+1))) (fun pv _=>k - (intOf pv).toNat)
         case atStart=>exact⟨0,Nat.zero_le _,rfl,R1,P1⟩
         case round=>
          clear R1 P1
          obtain⟨p,hpk,rfl,R1,P1⟩:=hrel
          by_cases hpl:p < k
          ·have p1:(p:Int) < k:=by omega
           have HPL:=xhd hpl
           obtain⟨rfl,hlb⟩:=HAO.out (by omega)
           have hcell:=HE.out p hpl
           obtain⟨hw0,hw1⟩:=HWf.out p hpl
           rw [←(P1.out.t.below (B:=w.heap.size) (by simp) (Nat.le_refl _)).cell (p:=⟨lb,off+p,none⟩) hlb] at hcell
           obtain⟨e1,e2⟩:=P1.out.vv hpl
           have hpay:=HPY.out p hpl
           have hwd:=P1.out.word hpl
           have HV:=S.vv (p:Int) P1.out.at_ P1.out.ok (by omega) ⟨by omega,by omega⟩
           rw [e1,e2] at HV
           have HV:=xhd HV
           have HWS:Hid ((wasV q k)[p]?=some (.int .u64 (vAt q p))):=xhd (wasV_at q hpl)
           have HCO:=xhd (fun V=>HCore (ws p) V)
           obtain⟨wp,hwp⟩:∃wp,ws p=wp:=⟨_,rfl⟩
           obtain⟨vo,hvo⟩:∃vo,vAt q p=vo:=⟨_,rfl⟩
           obtain⟨vn,hvn⟩:∃vn,vAt q.go p=vn:=⟨_,rfl⟩
           rw [hwp] at hcell hw0 hw1 hpay HCO
           rw [hvo] at hpay HWS
           rw [hvn] at hpay hwd HV
           obtain⟨g,cap',hg,_,_⟩:=ownsRow_pos R1.out (by omega)
           simp only [Value.slice.injEq] at hg
           obtain⟨rfl,_,rfl⟩:=hg
           have hwr:IntKind.i64.wrap wp=wp:=by rw [IntKind.wrap_i64];omega
           have HWD2:=xhd hwd
           clear e1 e2 hwp hvo hvn hpl
           go_wp2_with fail
           with_reducible refine HV.out.mono ?_
           rintro e V2 ⟨rfl,t2⟩
           have P2:=xhd (P1.out.later t2)
           have R2:=xhd (ownsRow_same R1.out fun g _ hl=>t2.block g hl (by simp))
           clear t2 hcell
           by_cases hpz:(p:Int)=z
           ·subst hpz
            rw [if_pos rfl] at hpay
            have hwv:IntKind.u64.wrap vn=vn:=by
             obtain⟨x0,x1⟩:=HWD2.out
             rw [IntKind.wrap_u64];omega
            obtain⟨pc,hpc⟩:∃pc,coreR wp=pc:=⟨_,rfl⟩
            rw [hpc] at HCO hpay
            have hadd:IntKind.u64.wrap (vo+pc)=vn:=by rw [←hpay];exact hwv
            have tz:((p:Int) == (p:Int))=true:=by simp
            clear hpay hwv hpc hwd
            go_wp2_with fail
            with_reducible refine (HCO.out _).mono ?_
            rintro e V3 ⟨rfl,t3⟩
            have P3:=xhd (P2.out.later t3)
            have R3:=xhd (ownsRow_same R2.out fun g _ hl=>t3.block g hl (by simp))
            have cw:V3.cell? ⟨g,p,none⟩=some (.int .u64 vo):=by
             rw [R3.out.cellAt p (by omega)]
             exact HWS.out
            clear t3
            go_wp2
            go_roundw
            case rel=>exact⟨p+1,by have:=HPL.out;omega,by go_num,R3,P3⟩
            case measure=>have:=HPL.out;simp [intOf];omega
           ·rw [if_neg (fun e=>hpz e.symm),Int.add_zero] at hpay
            have tz:((p:Int) == z)=false:=by simpa using hpz
            subst hpay
            have hwv:IntKind.u64.wrap vn=vn:=by
             obtain⟨x0,x1⟩:=HWD2.out
             rw [IntKind.wrap_u64];omega
            have cw:V2.cell? ⟨g,p,none⟩=some (.int .u64 vn):=by
             rw [R2.out.cellAt p (by omega)]
             exact HWS.out
            clear hwd
            go_wp2
            go_roundw
            case rel=>exact⟨p+1,by have:=HPL.out;omega,by go_num,R2,P2⟩
            case measure=>have:=HPL.out;simp [intOf];omega
          ·have d0:decide (z < 0)=false:=by simp;omega
           have d1:decide ((k:Int)≤z)=false:=by simp;omega
           obtain rfl:p=k:=by omega
           have PN:Hid (PlyQ S w wr b X1 q.go p ws (17592186044416*((j+1:Nat):Int)) (8+((j+1:Nat):Int))):=xhd (by
            have:=P1.out
            rw [show (17592186044416:Int)*((j+1:Nat):Int)=17592186044416*(j:Int)+17592186044416 by omega,show (8:Int)+((j+1:Nat):Int)=8+j+1 by omega]
            exact this)
           go_wp2
           go_roundw
           case rel=>exact⟨j+1,X1,_,by have:=HJL.out;omega,by go_num,PN⟩
           case measure=>have:=HJL.out;simp [intOf];omega
     ·have HT:=xhd HP.out.t
      have j2:¬(j:Int) < m:=by omega
      go_wp2
      go_ret
      exact⟨rfl,HT.out⟩
end Go.Proofs.Ytbfifglcnhfccaa
namespace Go.Proofs.Ytbfifglcnhfccaa
open Go.ChangeShapes Go.WideShapes Go.ChangeAt Go.RowKit Go.Deep
theorem rqonce_lifted (S:RqSaid) (U:UnGiven) (os:Os) (started:os.Started) (H:Type) (enc:TypeId×Value→H):
  ReturnsInHanded {} Try.checked os 7 .any (Rows.runqOnceSpec.pre6 enc Try.prog Try.f7 Rows.runqOnceRow.domain false) (Rows.runqOnceSpec.post enc Try.prog Try.f7 false true false false):=by
 refine returnsInHanded_of_change (C:=Try.checked) own started (by kernel_rfl) Try.func7
  (ChangeSpec.witness6 (enc:=enc) (C:=Try.checked) false ⟨#[], #[.int .i64 0, .slice none 0 0, .int .u8 0],[]⟩ 8 (by kernel_rfl) (by kernel_rfl) (by kernel_rfl) (by kernel_rfl)) ?_
 intro W base args ds gs before hval0 hW hcnd _
 have hval:∀(j:Nat) t v,Try.f7.params[j]?=some t→args[j]?=some v→Value.okWide Try.prog W .any base t v:=hval0
 have hW':=hW
 obtain⟨p,q,hA0,hV,rfl,hfz,hnd⟩:=hW
 have hA:DataW.TrodAll enc Try.prog W 0 (fun _=>true) true Try.f7.params.toList args.toList ds p:=hA0
 rw [Try.params7] at hA hval
 obtain⟨v0,v1,v2,d0,d1,d2,p0,p1,p2,rfl,rfl,rfl,h0,h1,h2⟩:=trodAll_three hA
 obtain⟨rfl,rfl⟩:=trodVars_none hV
 have h1k:=h1
 obtain⟨gr,rfl,rfl,rfl,w0⟩:=open_int Try.underlying3 (hval 0 3 v0 rfl rfl) h0
 obtain⟨m,rfl,rfl,rfl,w2⟩:=open_int Try.underlying5 (hval 2 5 v2 rfl rfl) h2
 obtain⟨ao,b,off,n,cap,F,rfl,hm,hao,hE,hWf⟩:=open_u8s Try.underlying48 Try.underlying5 (by kernel_rfl) (hval 1 48 v1 rfl rfl) h1
 clear hA0 hval0
 have hlt1:∀x ∈ p1,x.block < W.heap.size:=fun x hx=>hW'.lt x (by simp [hx])
 obtain⟨m0,m1⟩:=u8_low w2
 obtain⟨k,rfl⟩:∃k:Nat,m=k:=⟨m.toNat,by omega⟩
 refine (rqonce_walk S (fun n w=>(U.core n w).mono fun e w' ⟨h1,h2⟩=>⟨h1,turned_bel h2⟩) gr ao b off n cap F k W (isI_of w0) hao hE hWf hm (by omega)).mono fun e W' ⟨he,ht⟩=>?_
 have hb:Below W.heap.size W W':=ht.below (by simp) (Nat.le_refl _)
 subst he
 exact⟨_,rfl,post_law (pv:=[]) hW' hb (fun _ _ _=>trodAll_mk1 (shut_bool Try.underlying4 _))
  (trodAll_mk3 (shut_int Try.underlying3 w0) (Below.trod laidOut (by kernel_rfl) (of_decide_eq_true (by kernel_rfl)) h1k hb hlt1) (shut_int Try.underlying5 w2)) rfl⟩
theorem runqOnce_of (S:RqSaid) (U:UnGiven):Rows.RunqOnceSaid:=
 OpenClaim.holds_of_wide 7 Try.f7 rfl rfl rfl rfl rfl rfl rfl ⟨rfl,rfl,rfl,rfl,rfl⟩ rfl rfl rfl rfl rfl (by kernel_rfl) Try.func7 (by kernel_rfl)
  (of_decide_eq_true (by kernel_rfl)) (by unfold Func.isWrapper;first|(rw [if_pos (by decide+kernel)];kernel_rfl) |(rw [if_neg (by decide+kernel)];exact⟨rfl,rfl⟩))
  (fun os started H enc _=>rqonce_lifted S U os started H enc)
end Go.Proofs.Ytbfifglcnhfccaa
