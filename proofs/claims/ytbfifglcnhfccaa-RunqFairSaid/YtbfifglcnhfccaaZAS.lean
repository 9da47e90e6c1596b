/-
  RunqFair's lists: the weights and the ticks, as the law keeps them.
  RunqFair: the walk, given what is said of the program's queues and of its unit. (Made by gen_rqfairw.py.)
  RunqFair's row, given what is said of the program's queues and of its unit.
-/
import Derived.Test.YtbfifglcnhfccaaZAP
import Derived.Test.YtbfifglcnhfccaaZAO
import Derived.Test.YtbfifglcnhfccaaZAB
import Derived.Laws.OwnMore
import Derived.Laws.MakeOwn
import Derived.OwnWalk
import Derived.Test.YtbfifglcnhfccaaZAl
set_option maxRecDepth 100000
set_option maxHeartbeats 25600000
namespace Go.Proofs.Ytbfifglcnhfccaa
open Go.RowKit
theorem infoI16:(Try.prog.info? 3).map (fun i=>(i.zero,i.size,i.bytes))=some (some (.int .i64 0),1,8):=by kernel_rfl
abbrev iv (L:List Int):List Value:=L.map (Value.int .i64)
def wL (F:Nat→Int) (i:Nat):List Int:=(List.range i).map fun (j:Nat)=>1+F j
def tL (q:Rq) (n k:Nat):List Int:=(List.range n).map fun (j:Nat)=>ticksQ q (j:Int) k
theorem wL_len (F:Nat→Int) (i:Nat):(wL F i).length=i:=by simp [wL]
theorem tL_len (q:Rq) (n k:Nat):(tL q n k).length=n:=by simp [tL]
theorem wL_succ (F:Nat→Int) (i:Nat):iv (wL F i)++[.int .i64 (1+F i)]=iv (wL F (i+1)):=by simp [wL,List.range_succ]
theorem wL_at (F:Nat→Int) {i n:Nat} (h:i < n):(iv (wL F n))[i]?=some (.int .i64 (1+F i)):=by simp [wL,h]
theorem tL_at (q:Rq) {i n:Nat} (k:Nat) (h:i < n):(iv (tL q n k))[i]?=some (.int .i64 (ticksQ q (i:Int) k)):=by simp [tL,h]
theorem tL_zero (q:Rq) (n:Nat):(madeCells #[Value.int .i64 0] n).toList=iv (tL q n 0):=by
 rw [toList_madeCells_one]
 apply List.ext_getElem
 ·simp [tL]
 ·intro j h1 h2
  simp [tL,ticksQ]
theorem tL_succ (q:Rq) {n k z:Nat} (hz:(goesQ q k).who=z):(iv (tL q n k)).set z (.int .i64 (ticksQ q (z:Int) k+1))=iv (tL q n (k+1)):=by
 apply List.ext_getElem
 ·simp [tL]
 ·intro j h1 h2
  rw [List.getElem_set]
  by_cases h:z=j
  ·subst h
   rw [if_pos rfl]
   simp [tL,ticksQ,hz]
  ·rw [if_neg h]
   have hne:¬((z:Int)=(j:Int)):=by omega
   simp [tL,ticksQ,hz,hne]
structure FaR (w V:World) (X:List Nat) (n:Nat) (v:Value) (xs:List Value):Prop where
 row:V.ownsRow 0 3 1 v n xs
 own:∀g ∈ v.ownBlock.toList,w.heap.size≤g∧g ∉ X
section
variable {S:RqSaid} {w V V':World} {b:Nat} {X X':List Nat} {q:Rq} {k n m:Nat} {ws:Nat→Int} {B c:Int} {v:Value} {xs ys:List Value}
theorem FaR.nil (w V:World) (X:List Nat):FaR w V X 0 (.slice none 0 0) []:=⟨World.ownsRow_nil _ _ _ _,fun g hg=>by simp [Value.ownBlock] at hg⟩
theorem FaR.same0 (h:FaR w V X n v xs) (t:Turned [] V V'):FaR w V' X n v xs:=⟨ownsRow_same h.row fun g _ hl=>t.block g hl (by simp),h.own⟩
theorem FaR.sameX (h:FaR w V X n v xs) (t:Turned X V V') (nw:Newer X V.heap.size X'):FaR w V' X' n v xs:=
 ⟨ownsRow_same h.row fun g hg hl=>t.block g hl (h.own g hg).2,fun g hg=>⟨(h.own g hg).1,fun hx=>by
   rcases nw g hx with h1|h1
   ·exact (h.own g hg).2 h1
   ·have:=ownsRow_lt h.row g hg
    omega⟩⟩
theorem FaR.other (h:FaR w V X n v xs) {u:Value} (hg:V.grownBy V' u.ownBlock) (hne:∀g ∈ v.ownBlock.toList,u.ownBlock≠some g):FaR w V' X n v xs:=
 ⟨ownsRow_same h.row fun g hg' hl=>hg.block g hl (fun e=>hne g hg' e.symm),h.own⟩
theorem PlyQ.growR (h:PlyQ S w V b X q k ws B c) (r:FaR w V X n v xs) (hg:V.grownBy V' v.ownBlock):PlyQ S w V' b X q k ws B c:=by
 have hT:Turned v.ownBlock.toList V V':=Turned.grown (Turned.refl _ V) hg (fun k hk=> .inl (by simp [hk]))
 refine⟨S.keep h.at_ hT (fun j hj hk=>(r.own j hk).2 hj) (fun j hj cs t fz ho=>?_),h.ok,h.lag,h.row,h.t.trans hT (fun j hj=> .inr (r.own j hj).1),h.lx⟩
 obtain⟨cur,hc⟩:=ownsRow_type r.row j hj
 rw [hc] at ho
 simp only [Option.some.injEq,Obj.cells.injEq] at ho
 rw [←ho.2.1]
 exact S.offI
theorem FaR.grow (h:PlyQ S w V b X q k ws B c) (r:FaR w V X n v xs) {g cap:Nat} (ho:V'.ownsRow 0 3 1 (.slice (some ⟨g,0,none⟩) m cap) m ys) (hor:v.ownBlock=some g∨V.heap.size≤g):FaR w V' X m (.slice (some ⟨g,0,none⟩) m cap) ys:=by
 refine⟨ho,fun g' hg'=>?_⟩
 obtain rfl:g'=g:=by simpa [Value.ownBlock,eq_comm] using hg'
 rcases hor with h1|h1
 ·exact r.own g' (by simp [h1])
 ·refine⟨Nat.le_trans h.t.size h1,fun hx=>?_⟩
  have:=S.lt h.at_ g' hx
  omega
theorem FaR.iarg {L:List Int} {g cap:Nat} (h:FaR w V X n (.slice (some ⟨g,0,none⟩) n cap) (iv L)) (hl:L.length=n):IArg V (some ⟨g,0,none⟩) g 0 L:=by
 refine⟨fun _=>⟨rfl,ownsRow_lt h.row g (by simp [Value.ownBlock])⟩,fun i hi=>?_⟩
 have hc:=h.row.cellAt i (by omega)
 rw [Nat.zero_add,hc]
 simp [iv,hi]
theorem PlyQ.fair {F:Nat→Int} {g:Int} (h:PlyQ S w V b X q n (fun i=>1+F i) B c) (hF:∀i,i < n→0≤F i∧F i≤255) (hg:q.g=g) (hB:0≤B) (hn:0 < n) (h16:n≤16) (hm:m≤300) (hBn:B+17592186044416*(m:Int)≤9223372036854775808):
  fairR (tL q n m) (wL F n) (((n:Int) - 1)*g+1)=true:=by
 have hl:=h.row.len
 have hf:=goes_fair h.lag h.ok.ran.1 hB hm hBn (fun e=>by rw [e] at hl;simp at hl;omega) (by omega)
 have e1:q.l.map (fun x=>ticksQ q x.1 m)=tL q n m:=by
  apply List.ext_getElem
  ·simp [tL,hl]
  ·intro j h1 h2
   have:=(h.row.at_ j (by simpa using h1)).1
   simp [tL,this]
 have e2:q.l.map (·.2.2)=wL F n:=by
  apply List.ext_getElem
  ·simp [wL,hl]
  ·intro j h1 h2
   have hj:j < n:=by simpa [wL] using h2
   have:=(h.row.at_ j (by simpa using h1)).2
   have hb:=hF j hj
   rw [bring_in (by omega) (by omega)] at this
   simp [wL,this]
 rw [e1,e2,hl,hg] at hf
 exact hf
end
end Go.Proofs.Ytbfifglcnhfccaa
namespace Go.Proofs.Ytbfifglcnhfccaa
open Go.RowKit
theorem rqfair_walk (S:RqSaid) (U:UnGiven)
  (gr:Int) (ao:Option Addr) (lb off n cap:Nat) (F:Nat→Int) (a0 a1:Nat) (w:World) (hgr:isI gr) (hao:0 < n→ao=some ⟨lb,off,none⟩∧lb < w.heap.size)
  (hE:∀i,i < n→w.cell? ⟨lb,off+i,none⟩=some (.int .u8 (F i))) (hW:∀i,i < n→0≤F i∧F i≤255) (hn:n≤maxLen) (ha0:a0≤65535) (ha1:a1≤65535):
  Calls Try.prog 5 #[.int .i64 gr, .slice ao n cap, .agg #[.int .u16 a0, .int .u16 a1]] w fun r w'=>r= .returned (.bool true)∧Turned [] w w':=by
 unfold maxLen at hn
 obtain⟨wb,hwb⟩:∃wb,w.alloc (.cells #[.int .u16 a0, .int .u16 a1] 50)=wb:=⟨_,rfl⟩
 have tb:Turned [] w wb:=by rw [←hwb];exact (Turned.refl [] w).alloc _
 have sb:wb.heap.size=w.heap.size+1:=by rw [←hwb];simp
 have hx:wb.heap[w.heap.size]?=some (.cells #[.int .u16 a0, .int .u16 a1] 50 (0,0)):=by rw [←hwb];exact heap_alloc_new w _
 have HBX:=xhd (fun V (t:Turned [] wb V)=>show V.cell? ⟨w.heap.size,0,none⟩=some (.int .u16 a0)∧V.cell? ⟨w.heap.size,1,none⟩=some (.int .u16 a1) from by
  have h:=(t.block w.heap.size (by omega) (by simp)).trans hx
  exact⟨by simp [World.cell?,h],by simp [World.cell?,h]⟩)
 have HE:Hid (∀V,Turned [] wb V→∀i,i < n→V.cell? ⟨lb,off+i,none⟩=some (.int .u8 (F i))):=xhd (fun V t i hi=>by
  rw [((tb.trans t (Newer.refl _ _)).below (B:=w.heap.size) (by simp) (Nat.le_refl _)).cell (p:=⟨lb,off+i,none⟩) (hao (by omega)).2]
  exact hE i hi)
 have HAO:=xhd (fun h=>(hao h).1)
 have HTW:=xhd (fun V (t:Turned [] wb V)=>(tb.trans t (Newer.refl _ _):Turned [] w V))
 have HWf:=xhd hW
 have AW:=xhd (awake16 S wb)
 have HNP:=xhd (fun V=>S.new gr V hgr)
 have HFA:=xhd U.fair
 have HBR:=xhd (fun V=>bring_any gr 1 8 V)
 have HGI:=xhd (bring_range (n:=gr) (lo:=1) (hi:=8) (by decide))
 obtain⟨g,hg⟩:∃g,bringR gr 1 8=g:=⟨_,rfl⟩
 have HQG:Hid ((Rq.new gr).g=g):=xhd (by rw [←hg];rfl)
 rw [hg] at HBR HGI
 clear hE hao hW hgr tb sb hx hg U
 have HWB:=xhd hwb
 clear hwb
 have h0z:¬((0:Int)=0∧False):=by simp
 clear h0z
 by_cases hbig:16 < n∨n=0
 ·by_cases h16:16 < n
  ·have h16z:(16:Int) < (n:Int):=by omega
   clear hbig
   go_enter Try.func5,Try.ntmps5
   go_wp2_with fail
   rw [HWB.out]
   with_reducible refine AW.out.mono ?_
   rintro e w0 ⟨rfl,t0⟩
   have T0:=xhd t0
   clear t0
   go_wp2
   go_ret
   exact⟨rfl,HTW.out _ T0.out⟩
  ·obtain rfl:n=0:=by omega
   clear hbig
   go_enter Try.func5,Try.ntmps5
   go_wp2_with fail
   rw [HWB.out]
   with_reducible refine AW.out.mono ?_
   rintro e w0 ⟨rfl,t0⟩
   have T0:=xhd t0
   clear t0
   go_wp2
   go_ret
   exact⟨rfl,HTW.out _ T0.out⟩
 ·have h16:n≤16:=by omega
  have h0:0 < n:=by omega
  have h16z:¬(16:Int) < (n:Int):=by omega
  have d16:decide ((16:Int) < (n:Int))=false:=by simpa using h16z
  have d0:((n:Int) == 0)=false:=by simp;omega
  obtain⟨ii,hi,hz0,hz1,hz2⟩:=info_parts infoI16
  obtain⟨r,hr⟩:∃r,a0 % 5=r:=⟨_,rfl⟩
  obtain⟨m,hm⟩:∃m,a1 % 300=m:=⟨_,rfl⟩
  have hr5:r≤4:=by omega
  have hm3:m≤299:=by omega
  have hrz:(a0:Int) % 5=r:=by omega
  have hmz:(a1:Int) % 300=m:=by omega
  have hrt:(a0:Int).tmod 5=r:=by rw [Int.tmod_eq_emod_of_nonneg (by omega)];exact hrz
  have hmt:(a1:Int).tmod 300=m:=by rw [Int.tmod_eq_emod_of_nonneg (by omega)];exact hmz
  have hwr:IntKind.i64.wrap (r:Int)=r:=by rw [IntKind.wrap_i64];omega
  have hwm:IntKind.i64.wrap (m:Int)=m:=by rw [IntKind.wrap_i64];omega
  have hwr16:IntKind.u16.wrap (r:Int)=r:=by rw [IntKind.wrap_u16];omega
  have hwm16:IntKind.u16.wrap (m:Int)=m:=by rw [IntKind.wrap_u16];omega
  clear hbig hn hr hm
  go_enter Try.func5,Try.ntmps5
  go_wp2_with fail
  rw [HWB.out]
  with_reducible refine AW.out.mono ?_
  rintro e w0 ⟨rfl,t0⟩
  have T0:=xhd t0
  clear t0 AW
  go_wp2_with fail
  with_reducible refine (HNP.out _).mono ?_
  rintro e w1 ⟨b,X0,rfl,a1',t1,n1⟩
  have P0:=xhd (ply_new S (fun i=>1+F i) a1' T0.out t1 n1)
  clear a1' t1 n1 HNP T0
  go_wp2_with fail
  go_loopw [8,30] (fun o iv V=>∃(i t:Nat) (X:List Nat) (q:Rq),i≤n∧iv= .int .i64 i∧t≤4*i∧Hid (PlyQ S wb V b X q i (fun i=>1+F i) (17592186044416*(t:Int)) (8+t))∧Hid (FaR wb V X i o (Go.Proofs.Ytbfifglcnhfccaa.iv (wL F i)))∧Hid (q.g=g)) (fun _ iv _=>n - (intOf iv).toNat)
  case atStart=>exact⟨0,0,X0,_,Nat.zero_le _,rfl,by omega,P0,xhd (FaR.nil _ _ _),HQG⟩
  case round=>
   clear P0
   obtain⟨i,t,X,q,hin,rfl,ht4,HP,HR,HG⟩:=hrel
   by_cases hlt:i < n
   ·obtain rfl:=HAO.out (by omega)
    have hcell:=HE.out _ HP.out.t i hlt
    obtain⟨hw0,hw1⟩:=HWf.out i hlt
    have i1:(i:Int) < n:=by omega
    have i16:i < 16:=by omega
    have HLT:=xhd hlt
    have HII:Hid (isI (i:Int)):=xhd ⟨by omega,by omega⟩
    have HWL:=xhd (wL_succ F i)
    have HWA:=xhd (wL_at F (show i < i+1 by omega))
    obtain⟨wi,hwi⟩:∃wi,F i=wi:=⟨_,rfl⟩
    have HAE:=xhd (HP.out.addE i16)
    have HAD:=xhd (fun V (a:S.At V b X q)=>S.add (i:Int) 0 (1+F i) a HP.out.ok (by omega) HII.out ⟨by omega,by omega⟩ ⟨by omega,by omega⟩)
    rw [HAE.out] at HAD
    have HST:=xhd (fun V (p:PlyQ S wb V b X q i (fun i=>1+F i) (17592186044416*(t:Int)) (8+t)) V' X' (a:S.At V' b X' (q.add i 0 (1+F i))) t n'=>p.add (by omega) i16 (v:=0) ⟨by omega,by omega⟩ a t n')
    have HGA:Hid ((q.add i 0 (1+F i)).g=g):=xhd (by rw [(HP.out.row.added i16 0:q.add i 0 (1+F i)=_)];exact HG.out)
    rw [hwi] at hcell hw0 hw1 HWL HWA HAD HST HGA
    have hwr2:IntKind.i64.wrap wi=wi:=by rw [IntKind.wrap_i64];omega
    have hwr3:IntKind.i64.wrap (1+wi)=1+wi:=by rw [IntKind.wrap_i64];omega
    have HT4:=xhd ht4
    obtain⟨av,cv,hov,_,_⟩:=ownsRow_shape HR.out.row
    subst hov
    clear hwi hlt
    go_wp2_with (at_builtin;refine wpList_append_at _ rfl _ _ 51 rfl 3 ii (.int .i64 0) 1 8 Try.underlying51 hi hz0 hz1 hz2 rfl (by decide) _ _ _ rfl (HR.out.row.alloc _) ⟨wr.heap.size,0,none⟩ 1 1 [.int .i64 (1+wi)] rfl (by decide) rfl ?c1 ?c2 ?c3 ?c4 ?_)
    case c2=>first|rfl|(intro u hu;simp at hu;subst hu;rfl)
    case c3=>unfold maxLen;omega
    case c4=>omega
    intro gv cap' V2 hown2 hgrow hor _ _
    have ta:=(Turned.refl [] wr).alloc (.cells #[.int .i64 (1+wi)] 3)
    have p1:=HP.out.later ta
    have r1:=HR.out.same0 ta
    have P2:=xhd (p1.growR r1 hgrow)
    have R2:Hid (FaR wb V2 X (i+1) (.slice (some ⟨gv,0,none⟩) (i+1) cap') (Go.Proofs.Ytbfifglcnhfccaa.iv (wL F (i+1)))):=xhd (by
     have:=r1.grow p1 hown2 (by rw [World.size_alloc];exact hor)
     rw [HWL.out] at this
     exact this)
    have cw:V2.cell? ⟨gv,i,none⟩=some (.int .i64 (1+wi)):=by
     rw [R2.out.row.cellAt i (by omega)]
     exact HWA.out
    clear hown2 hgrow hor ta p1 r1 hcell HR HP
    go_wp2_with fail
    with_reducible refine (HAD.out _ P2.out.at_).mono ?_
    rintro e V3 ⟨rfl,X3,a3,t3,n3⟩
    have P3:=xhd (HST.out _ P2.out V3 X3 a3 t3 n3)
    have R3:=xhd (R2.out.sameX t3 n3)
    clear a3 t3 n3 cw P2 R2
    have hbx:=(HBX.out _ P3.out.t).1
    go_wp2_with fail
    go_loopw [57] (fun kv V=>∃(k t':Nat) (X':List Nat) (q':Rq),k≤r∧kv= .int .i64 k∧t'≤4*i+k∧Hid (PlyQ S wb V b X' q' (i+1) (fun i=>1+F i) (17592186044416*(t':Int)) (8+t'))∧Hid (FaR wb V X' (i+1) (.slice (some ⟨gv,0,none⟩) (i+1) cap') (Go.Proofs.Ytbfifglcnhfccaa.iv (wL F (i+1))))∧Hid (q'.g=g)) (fun kv _=>r - (intOf kv).toNat)
    case atStart=>exact⟨0,t,X3,_,Nat.zero_le _,rfl,by have:=HT4.out;omega,P3,R3,HGA⟩
    case round=>
     clear P3 R3 hbx HGA HAD HST
     obtain⟨k,t',X',q',hkr,rfl,ht',HP,HR,HG⟩:=hrel
     by_cases hkl:k < r
     ·have k1:(k:Int) < r:=by omega
      have HKL:=xhd hkl
      have HT':=xhd ht'
      have HBB:Hid ((17592186044416:Int)*(t':Int)≤9223372036854775808):=xhd (by omega)
      have HGO:=xhd (goon_any S HP.out.at_ HP.out.ok (by omega))
      have HGG:Hid (q'.go.g=g):=xhd ((go_g q').trans HG.out)
      clear hkl
      go_wp2_with fail
      with_reducible refine HGO.out.mono ?_
      rintro e V4 ⟨rfl,X4,a4,t4,n4⟩
      have P4:Hid (PlyQ S wb V4 b X4 q'.go (i+1) (fun i=>1+F i) (17592186044416*((t'+1:Nat):Int)) (8+((t'+1:Nat):Int))):=xhd (by
       have:=HP.out.go HBB.out a4 t4 n4
       rw [show (17592186044416:Int)*((t'+1:Nat):Int)=17592186044416*(t':Int)+17592186044416 by omega,show (8:Int)+((t'+1:Nat):Int)=8+t'+1 by omega]
       exact this)
      have R4:=xhd (HR.out.sameX t4 n4)
      clear a4 t4 n4
      go_wp2
      go_roundw
      case rel=>exact⟨k+1,t'+1,X4,_,by have:=HKL.out;omega,by go_num,by have:=HT'.out;omega,P4,R4,HGG⟩
      case measure=>have:=HKL.out;simp [intOf];omega
     ·have k2:¬(k:Int) < r:=by omega
      have HT':=xhd ht'
      go_wp2
      go_roundw
      case rel=>exact⟨i+1,t',X',q',by have:=HLT.out;omega,by go_num,by have:=HT'.out;omega,HP,HR,HG⟩
      case measure=>have:=HLT.out;simp [intOf];omega
   ·obtain rfl:i=n:=by omega
    have HT4:=xhd ht4
    obtain⟨gw,cw,hov,_,_⟩:=ownsRow_pos HR.out.row h0
    subst hov
    go_wp2_with (at_make;refine wpList_make_full _ rfl _ _ 51 rfl 0 3 ii (.int .i64 0) 1 Try.underlying51 hi hz0 hz1 .i64 .i64 i i i rfl rfl rfl rfl ?d1 ?d2 ?d3 ?_)
    case d1=>rw [hz2];omega
    case d2=>unfold maxLen;omega
    case d3=>omega
    intro V2 hown2 hgrow
    have tm:Turned [] wr V2:=Turned.grown (Turned.refl [] wr) hgrow (fun k hk=>by cases hk)
    have P2:=xhd (HP.out.later tm)
    have R2:=xhd (HR.out.same0 tm)
    rw [tL_zero q] at hown2
    have K2:=xhd ((FaR.nil wb wr X).grow HP.out hown2 (.inr (Nat.le_refl _)))
    have NE:Hid (gw≠wr.heap.size):=xhd (by
     have:=ownsRow_lt HR.out.row gw (by simp [Value.ownBlock])
     omega)
    have HFR:=xhd (HP.out.fair (m:=m) HWf.out HG.out (by omega) h0 h16 (by omega) (by omega))
    have hbx:=(HBX.out _ P2.out.t).2
    clear tm hown2 hgrow HP HR HBX HE
    generalize wr.heap.size=gt at K2 NE ⊢
    go_wp2_with fail
    go_loopw [70] (fun kv V=>∃(k:Nat) (X':List Nat),k≤m∧kv= .int .i64 k∧Hid (PlyQ S wb V b X' (goesQ q k) i (fun i=>1+F i) (17592186044416*((t+k:Nat):Int)) (8+((t+k:Nat):Int)))∧Hid (FaR wb V X' i (.slice (some ⟨gw,0,none⟩) i cw) (Go.Proofs.Ytbfifglcnhfccaa.iv (wL F i)))∧Hid (FaR wb V X' i (.slice (some ⟨gt,0,none⟩) i i) (Go.Proofs.Ytbfifglcnhfccaa.iv (tL q i k)))) (fun kv _=>m - (intOf kv).toNat)
    case atStart=>exact⟨0,X,Nat.zero_le _,rfl,P2,R2,K2⟩
    case round=>
     clear P2 R2 K2 hbx
     obtain⟨k,X',hkm,rfl,HP,HR,HK⟩:=hrel
     by_cases hkl:k < m
     ·have k1:(k:Int) < m:=by omega
      have HKL:=xhd hkl
      have ht4:=HT4.out
      have HBB:Hid ((17592186044416:Int)*((t+k:Nat):Int)≤9223372036854775808):=xhd (by omega)
      have HGO:=xhd (goon_any S HP.out.at_ HP.out.ok (by omega))
      obtain⟨z0,z1⟩:=HP.out.who h0
      obtain⟨z,hz⟩:∃z:Nat,(goesQ q k).who=z:=⟨(goesQ q k).who.toNat,by omega⟩
      rw [hz] at HGO z0 z1
      have HST:=xhd (tL_succ q (n:=i) hz)
      have HTZ:=xhd (tL_at q k (show z < i by omega))
      obtain⟨x0,x1⟩:=ticks_range q (z:Int) k
      obtain⟨x,hxx⟩:∃x,ticksQ q (z:Int) k=x:=⟨_,rfl⟩
      rw [hxx] at HST HTZ x0 x1
      have hwx:IntKind.i64.wrap (x+1)=x+1:=by rw [IntKind.wrap_i64];omega
      have dz0:decide ((z:Int) < 0)=false:=by simp
      have dz1:decide ((i:Int)≤(z:Int))=false:=by simp;omega
      clear hz hxx hkl ht4
      go_wp2_with fail
      with_reducible refine HGO.out.mono ?_
      rintro e V4 ⟨rfl,X4,a4,t4,n4⟩
      have P4:Hid (PlyQ S wb V4 b X4 (goesQ q (k+1)) i (fun i=>1+F i) (17592186044416*((t+(k+1):Nat):Int)) (8+((t+(k+1):Nat):Int))):=xhd (by
       have:=HP.out.go HBB.out a4 t4 n4
       rw [show (17592186044416:Int)*((t+(k+1):Nat):Int)=17592186044416*((t+k:Nat):Int)+17592186044416 by omega,show (8:Int)+((t+(k+1):Nat):Int)=8+((t+k:Nat):Int)+1 by omega]
       exact this)
      have R4:=xhd (HR.out.sameX t4 n4)
      have K4:=xhd (HK.out.sameX t4 n4)
      have c4:V4.cell? ⟨gt,z,none⟩=some (.int .i64 x):=by
       rw [K4.out.row.cellAt z (by omega)]
       exact HTZ.out
      have f4:V4.frozen? ⟨gt,z,none⟩=false:=K4.out.row.frozenAt z
      obtain⟨s1,s2⟩:=K4.out.row.stored z (.int .i64 (x+1))
      rw [HST.out] at s1
      have P5:=xhd (P4.out.growR K4.out s2)
      have R5:=xhd (R4.out.other (u:= .slice (some ⟨gt,0,none⟩) i i) s2 (fun g hg=>by
       simp only [Value.ownBlock,Option.toList_some,List.mem_singleton] at hg
       subst hg
       exact fun e=>NE.out (by simpa [Value.ownBlock,eq_comm] using e)))
      have K5:Hid (FaR wb (V4.setCell ⟨gt,z,none⟩ (.int .i64 (x+1))) X4 i (.slice (some ⟨gt,0,none⟩) i i) (Go.Proofs.Ytbfifglcnhfccaa.iv (tL q i (k+1)))):=xhd ⟨s1,K4.out.own⟩
      clear a4 t4 n4 s1 s2 HST HTZ P4 R4 K4 HP HR HK HGO
      go_wp2
      go_roundw
      case rel=>exact⟨k+1,X4,by have:=HKL.out;omega,by go_num,P5,R5,K5⟩
      case measure=>have:=HKL.out;simp [intOf];omega
     ·obtain rfl:k=m:=by omega
      have k2:¬(k:Int) < k:=by omega
      obtain⟨g1,g8⟩:=HGI.out
      have p0:0≤((i:Int) - 1)*g:=Int.mul_nonneg (by omega) (by omega)
      have p1:((i:Int) - 1)*g≤15*8:=Int.mul_le_mul (by omega) g8 (by omega) (by omega)
      have HF:=xhd (fun V (hI:IArg V (some ⟨gt,0,none⟩) gt 0 (tL q i k)) (hJ:IArg V (some ⟨gw,0,none⟩) gw 0 (wL F i))=>HFA.out _ _ _ i _ _ _ cw _ _ (((i:Int) - 1)*g+1) V hI hJ (by rw [tL_len];omega) (by rw [wL_len];omega))
      simp only [tL_len,wL_len] at HF
      have HI:=xhd (HK.out.iarg (tL_len q i k))
      have HJ:=xhd (HR.out.iarg (wL_len F i))
      have HT:=xhd HP.out.t
      rw [HFR.out] at HF
      obtain⟨pq,hpq⟩:∃pq,((i:Int) - 1)*g=pq:=⟨_,rfl⟩
      rw [hpq] at HF p0 p1
      have hwi1:IntKind.i64.wrap ((i:Int) - 1)=(i:Int) - 1:=by rw [IntKind.wrap_i64];omega
      have hwpq:IntKind.i64.wrap pq=pq:=by rw [IntKind.wrap_i64];omega
      have hwpq1:IntKind.i64.wrap (pq+1)=pq+1:=by rw [IntKind.wrap_i64];omega
      clear HP HR HK HFR
      go_wp2_with fail
      with_reducible refine (HBR.out _).mono ?_
      rintro e V5 ⟨rfl,rfl⟩
      go_wp2_with fail
      with_reducible refine (HF.out _ HI.out HJ.out).mono ?_
      rintro e V6 ⟨rfl,b6⟩
      have HT6:=xhd (HT.out.trans (turned_bel b6) (Newer.refl _ _))
      clear b6
      go_wp2
      go_ret
      exact⟨rfl,HTW.out _ HT6.out⟩
end Go.Proofs.Ytbfifglcnhfccaa
namespace Go.Proofs.Ytbfifglcnhfccaa
open Go.ChangeShapes Go.WideShapes Go.ChangeAt Go.RowKit Go.Deep
theorem list2 {α:Type} (l:List α) (h:l.length=2):∃a b,l=[a,b]:=by
 match l,h with
 |[a,b],_=>exact⟨a,b,rfl⟩
theorem rqfair_lifted (S:RqSaid) (U:UnGiven) (os:Os) (started:os.Started) (H:Type) (enc:TypeId×Value→H):
  ReturnsInHanded {} Try.checked os 5 .any (Rows.runqFairSpec.pre6 enc Try.prog Try.f5 Rows.runqFairRow.domain false) (Rows.runqFairSpec.post enc Try.prog Try.f5 false true false false):=by
 refine returnsInHanded_of_change (C:=Try.checked) own started (by kernel_rfl) Try.func5
  (ChangeSpec.witness6 (enc:=enc) (C:=Try.checked) false ⟨#[], #[.int .i64 0, .slice none 0 0, .agg #[.int .u16 0, .int .u16 0]],[]⟩ 8 (by kernel_rfl) (by kernel_rfl) (by kernel_rfl) (by kernel_rfl)) ?_
 intro W base args ds gs before hval0 hW hcnd _
 have hval:∀(j:Nat) t v,Try.f5.params[j]?=some t→args[j]?=some v→Value.okWide Try.prog W .any base t v:=hval0
 have hW':=hW
 obtain⟨p,q,hA0,hV,rfl,hfz,hnd⟩:=hW
 have hA:DataW.TrodAll enc Try.prog W 0 (fun _=>true) true Try.f5.params.toList args.toList ds p:=hA0
 rw [Try.params5] at hA hval
 obtain⟨v0,v1,v2,d0,d1,d2,p0,p1,p2,rfl,rfl,rfl,h0,h1,h2⟩:=trodAll_three hA
 obtain⟨rfl,rfl⟩:=trodVars_none hV
 have h1k:=h1
 obtain⟨gr,rfl,rfl,rfl,w0⟩:=open_int Try.underlying3 (hval 0 3 v0 rfl rfl) h0
 have h2k:=h2
 obtain⟨xs,hlen,rfl,rfl,rfl,hw⟩:=open_arr Try.underlying50 Try.underlying49 (by kernel_rfl) (by kernel_rfl) (hval 2 50 v2 rfl rfl) h2
 obtain⟨x0,x1,rfl⟩:=list2 xs hlen
 obtain⟨ao,b,off,n,cap,F,rfl,hm,hao,hE,hWf⟩:=open_u8s Try.underlying48 Try.underlying5 (by kernel_rfl) (hval 1 48 v1 rfl rfl) h1
 clear hA0 hval0
 have hlt1:∀x ∈ p1,x.block < W.heap.size:=fun x hx=>hW'.lt x (by simp [hx])
 obtain⟨c0,c1⟩:=u16_low (hw x0 (by simp))
 obtain⟨e0,e1⟩:=u16_low (hw x1 (by simp))
 obtain⟨a0,rfl⟩:∃a0:Nat,x0=a0:=⟨x0.toNat,by omega⟩
 obtain⟨a1,rfl⟩:∃a1:Nat,x1=a1:=⟨x1.toNat,by omega⟩
 refine (rqfair_walk S U gr ao b off n cap F a0 a1 W (isI_of w0) hao hE hWf hm (by omega) (by omega)).mono fun e W' ⟨he,ht⟩=>?_
 have hb:Below W.heap.size W W':=ht.below (by simp) (Nat.le_refl _)
 subst he
 exact⟨_,rfl,post_law (pv:=[]) hW' hb (fun _ _ _=>trodAll_mk1 (shut_bool Try.underlying4 _))
  (trodAll_mk3 (shut_int Try.underlying3 w0) (Below.trod laidOut (by kernel_rfl) (of_decide_eq_true (by kernel_rfl)) h1k hb hlt1) (Below.trod laidOut (by kernel_rfl) (of_decide_eq_true (by kernel_rfl)) h2k hb (fun x hx=>by cases hx))) rfl⟩
theorem runqFair_of (S:RqSaid) (U:UnGiven):Rows.RunqFairSaid:=
 OpenClaim.holds_of_wide 5 Try.f5 rfl rfl rfl rfl rfl rfl rfl ⟨rfl,rfl,rfl,rfl,rfl⟩ rfl rfl rfl rfl rfl (by kernel_rfl) Try.func5 (by kernel_rfl)
  (of_decide_eq_true (by kernel_rfl)) (by unfold Func.isWrapper;first|(rw [if_pos (by decide+kernel)];kernel_rfl) |(rw [if_neg (by decide+kernel)];exact⟨rfl,rfl⟩))
  (fun os started H enc _=>rqfair_lifted S U os started H enc)
end Go.Proofs.Ytbfifglcnhfccaa
