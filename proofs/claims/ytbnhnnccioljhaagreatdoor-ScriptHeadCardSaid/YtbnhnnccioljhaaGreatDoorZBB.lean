/-
  Setups, opened to their cells.
  The law's Small of setups.
-/
import Derived.Test.YtbnhnnccioljhaaGreatDoorZAX
import Derived.Test.YtbnhnnccioljhaaGreatDoorZAT
import Derived.Test.YtbnhnnccioljhaaGreatDoorZAZ
import Derived.Deep.RegionHeld3
import Derived.Test.YtbnhnnccioljhaaGreatDoorZAl
set_option maxRecDepth 100000
set_option maxHeartbeats 25600000
namespace Go.Proofs.YtbnhnnccioljhaaGreatDoor
open Go.ChangeShapes Go.WideShapes Go.ChangeAt Go.RowKit Go.Deep
section
variable {H:Type} {enc:TypeId×Value→H} {P:Program} {w:World} {base:Nat} {spare:Nat→Bool} {held:Bool}
theorem core_slice {α:Type} {t e:TypeId} {k:Nat} (ht:P.underlying t=some (.slice e)) (hC:P.cellsOf e=k) (Q:Addr→α→Prop) (z:α)
  (hel:∀(ad:Addr) (cs':List Value) (n:Nat) (x:DataW H×List MemPlace),cs'.length=k→(∀i,i < k→w.cell? (ad.add i)=cs'[i]?)→DataW.trod enc P w base spare held n e cs'=some x→∃y,Q ad y)
  (hsp:∀ad y,Q ad y→∃b off,ad=⟨b,off,none⟩∧b < w.heap.size)
  {fuel:Nat} {cs:List Value} {x:DataW H×List MemPlace} (h:DataW.trod enc P w base spare held fuel t cs=some x):
  ∃(ao:Option Addr) (b off cap:Nat) (L:List α),cs=[.slice ao L.length cap]∧(0 < L.length→ao=some ⟨b,off,none⟩∧b < w.heap.size)∧∀i (hi:i < L.length),Q ⟨b,off+i*k,none⟩ L[i]:=by
 rcases open_slice ht h with⟨hcs,_⟩ |⟨a,len,cap,m,n,D,Pl,hcs,hb,hl,hm,hmm,hx,hi⟩
 ·exact⟨none,0,0,0,[],hcs,fun h=>absurd h (by simp),fun i hi=>absurd hi (by simp)⟩
 ·have hlm:len≤m:=by rw [hmm];split<;>omega
  have each:∀i,∃y:α,i < len→Q (a.add (i*k)) y:=by
   intro i
   by_cases hil:i < len
   ·obtain⟨cs',hc,ht'⟩:=hi i (by omega)
    rw [hC] at hc
    obtain⟨_,hcl,hat⟩:=World.cells?_some hc
    obtain⟨y,hy⟩:=hel _ cs' n _ hcl hat ht'
    exact⟨y,fun _=>hy⟩
   ·exact⟨z,fun h=>absurd h hil⟩
  obtain⟨G,hG⟩:=Classical.axiomOfChoice each
  have hLl:((List.range len).map G).length=len:=by simp
  by_cases h0:0 < len
  ·have q0:=hG 0 h0
   have ha0:a.add (0*k)=a:=by
    unfold Addr.add
    simp
   rw [ha0] at q0
   obtain⟨b,off,rfl,hbl⟩:=hsp _ _ q0
   refine⟨_,b,off,cap,(List.range len).map G,by rw [hLl];exact hcs,fun _=>⟨rfl,hbl⟩,fun i hil=>?_⟩
   have hil':i < len:=by rw [hLl] at hil;exact hil
   have g:=hG i hil'
   rw [Addr.add_lit] at g
   simp only [List.getElem_map,List.getElem_range]
   exact g
  ·exact⟨some a,0,0,cap,(List.range len).map G,by rw [hLl];exact hcs,fun h=>by rw [hLl] at h;omega,fun i hil=>by rw [hLl] at hil;omega⟩
theorem add_zero (ad:Addr):ad.add 0=ad:=by
 unfold Addr.add
 simp
theorem core_ints {t e:TypeId} (ht:P.underlying t=some (.slice e)) (hC:P.cellsOf e=1) (he:P.underlying e=some (.int .i64)) {fuel:Nat} {cs:List Value} {x:DataW H×List MemPlace} (h:DataW.trod enc P w base spare held fuel t cs=some x):
  ∃(ao:Option Addr) (b off cap:Nat) (L:List Int),cs=[.slice ao L.length cap]∧IArg w ao b off L:=by
 obtain⟨ao,b,off,cap,L,h1,h2,h3⟩:=core_slice (α:=Int) ht hC (fun ad y=>w.cell? ad=some (.int .i64 y)) 0 (fun ad cs' n x hl hat hx=>by
  obtain⟨y,rfl,_⟩:=DataW.trod_int he hx
  have h0:=hat 0 (by omega)
  rw [add_zero] at h0
  exact⟨y,h0⟩) (fun ad y hq=>spot_none hq) h
 exact⟨ao,b,off,cap,L,h1,h2,fun i hi=>by have:=h3 i hi;rw [Nat.mul_one] at this;exact this⟩
theorem cut1 {cs:List Value} {j:Nat} {fuel:Nat} {t:TypeId} {k:IntKind} {ys:List (DataW H×List MemPlace)} {i:Nat} (hi:i < ys.length) (ht:P.underlying t=some (.int k)) (h:DataW.trod enc P w base spare held fuel t ((cs.drop j).take 1)=ys[i]?):∃n,cs[j]?=some (.int k n)∧(Lit.int k n).wf=true:=by
 rw [List.getElem?_eq_getElem hi] at h
 obtain⟨n,e,_,hw⟩:=DataW.trod_int ht h
 exact⟨n,cell_cut e,hw⟩
theorem cut2 {cs:List Value} {j:Nat} {fuel:Nat} {t:TypeId} {ys:List (DataW H×List MemPlace)} {i:Nat} (hi:i < ys.length) (ht:P.underlying t=some .bool) (h:DataW.trod enc P w base spare held fuel t ((cs.drop j).take 1)=ys[i]?):∃b,cs[j]?=some (.bool b):=by
 rw [List.getElem?_eq_getElem hi] at h
 obtain⟨n,e,_⟩:=DataW.trod_bool ht h
 exact⟨n,cell_cut e⟩
theorem core_locks {t e:TypeId} {f0 f1 f2 f3 f4:Field} (ht:P.underlying t=some (.slice e)) (hC:P.cellsOf e=5) (he:P.underlying e=some (.struct #[f0,f1,f2,f3,f4]))
  (o0:f0.offset=0) (o1:f1.offset=1) (o2:f2.offset=2) (o3:f3.offset=3) (o4:f4.offset=4) (c0:P.cellsOf f0.type=1) (c1:P.cellsOf f1.type=1) (c2:P.cellsOf f2.type=1) (c3:P.cellsOf f3.type=1) (c4:P.cellsOf f4.type=1)
  (k0:P.underlying f0.type=some .bool) (k1:P.underlying f1.type=some (.int .i64)) (k2:P.underlying f2.type=some (.int .i64)) (k3:P.underlying f3.type=some (.int .i64)) (k4:P.underlying f4.type=some (.int .i64))
  {fuel:Nat} {cs:List Value} {x:DataW H×List MemPlace} (h:DataW.trod enc P w base spare held fuel t cs=some x):
  ∃(ao:Option Addr) (b off cap:Nat) (L:List Lk),cs=[.slice ao L.length cap]∧LArg w ao b off L:=by
 obtain⟨ao,b,off,cap,L,h1,h2,h3⟩:=core_slice (α:=Lk) ht hC (fun ad y=>w.cell? (ad.add 0)=some (.bool y.1)∧w.cell? (ad.add 1)=some (.int .i64 y.2.1)∧w.cell? (ad.add 2)=some (.int .i64 y.2.2.1)∧w.cell? (ad.add 3)=some (.int .i64 y.2.2.2.1)∧w.cell? (ad.add 4)=some (.int .i64 y.2.2.2.2)) (false,0,0,0,0) (fun ad cs' n x hl hat hx=>by
  obtain⟨ys,n',_,_,_,hyl,hg⟩:=DataW.trod_struct he hx
  simp only [List.size_toArray,List.length_cons,List.length_nil] at hyl
  have t0:=hg 0 f0 rfl
  have t1:=hg 1 f1 rfl
  have t2:=hg 2 f2 rfl
  have t3:=hg 3 f3 rfl
  have t4:=hg 4 f4 rfl
  rw [o0,c0] at t0
  rw [o1,c1] at t1
  rw [o2,c2] at t2
  rw [o3,c3] at t3
  rw [o4,c4] at t4
  obtain⟨x0,e0⟩:=cut2 (by omega) k0 t0
  obtain⟨x1,e1,_⟩:=cut1 (by omega) k1 t1
  obtain⟨x2,e2,_⟩:=cut1 (by omega) k2 t2
  obtain⟨x3,e3,_⟩:=cut1 (by omega) k3 t3
  obtain⟨x4,e4,_⟩:=cut1 (by omega) k4 t4
  exact⟨(x0,x1,x2,x3,x4),by rw [hat 0 (by omega),e0],by rw [hat 1 (by omega),e1],by rw [hat 2 (by omega),e2],by rw [hat 3 (by omega),e3],by rw [hat 4 (by omega),e4]⟩) (fun ad y hq=>by
  have h0:=hq.1
  rw [add_zero] at h0
  exact spot_none h0) h
 exact⟨ao,b,off,cap,L,h1,h2,fun i hi=>by have:=h3 i hi;simpa [Addr.add_lit] using this⟩
theorem core_ops {t e:TypeId} {f0 f1 f2:Field} (ht:P.underlying t=some (.slice e)) (hC:P.cellsOf e=3) (he:P.underlying e=some (.struct #[f0,f1,f2]))
  (o0:f0.offset=0) (o1:f1.offset=1) (o2:f2.offset=2) (c0:P.cellsOf f0.type=1) (c1:P.cellsOf f1.type=1) (c2:P.cellsOf f2.type=1)
  (k0:P.underlying f0.type=some (.int .i64)) (k1:P.underlying f1.type=some (.int .i64)) (k2:P.underlying f2.type=some (.int .i64))
  {fuel:Nat} {cs:List Value} {x:DataW H×List MemPlace} (h:DataW.trod enc P w base spare held fuel t cs=some x):
  ∃(ao:Option Addr) (b off cap:Nat) (L:List Opn),cs=[.slice ao L.length cap]∧OArg w ao b off L∧∀o ∈ L,small o.1:=by
 obtain⟨ao,b,off,cap,L,h1,h2,h3⟩:=core_slice (α:=Opn) ht hC (fun ad y=>(w.cell? (ad.add 0)=some (.int .i64 y.1)∧w.cell? (ad.add 1)=some (.int .i64 y.2.1)∧w.cell? (ad.add 2)=some (.int .i64 y.2.2))∧small y.1) (0,0,0) (fun ad cs' n x hl hat hx=>by
  obtain⟨ys,n',_,_,_,hyl,hg⟩:=DataW.trod_struct he hx
  simp only [List.size_toArray,List.length_cons,List.length_nil] at hyl
  have t0:=hg 0 f0 rfl
  have t1:=hg 1 f1 rfl
  have t2:=hg 2 f2 rfl
  rw [o0,c0] at t0
  rw [o1,c1] at t1
  rw [o2,c2] at t2
  obtain⟨x0,e0,w0⟩:=cut1 (by omega) k0 t0
  obtain⟨x1,e1,_⟩:=cut1 (by omega) k1 t1
  obtain⟨x2,e2,_⟩:=cut1 (by omega) k2 t2
  exact⟨(x0,x1,x2),⟨by rw [hat 0 (by omega),e0],by rw [hat 1 (by omega),e1],by rw [hat 2 (by omega),e2]⟩,small_of_wf w0⟩) (fun ad y hq=>by
  have h0:=hq.1.1
  rw [add_zero] at h0
  exact spot_none h0) h
 refine⟨ao,b,off,cap,L,h1,⟨h2,fun i hi=>by have:=(h3 i hi).1;simpa [Addr.add_lit] using this⟩,fun o ho=>?_⟩
 obtain⟨i,hi,rfl⟩:=List.getElem_of_mem ho
 exact (h3 i hi).2
theorem core_progs {t e tl eo:TypeId} {g0 g1 f0 f1 f2:Field} (ht:P.underlying t=some (.slice e)) (hC:P.cellsOf e=2) (he:P.underlying e=some (.struct #[g0,g1])) (q0:g0.offset=0) (q1:g1.offset=1) (d0:P.cellsOf g0.type=1) (d1:P.cellsOf g1.type=1)
  (kb:P.underlying g0.type=some .bool) (hg1:g1.type=tl) (htl:P.underlying tl=some (.slice eo)) (hCo:P.cellsOf eo=3) (heo:P.underlying eo=some (.struct #[f0,f1,f2]))
  (o0:f0.offset=0) (o1:f1.offset=1) (o2:f2.offset=2) (c0:P.cellsOf f0.type=1) (c1:P.cellsOf f1.type=1) (c2:P.cellsOf f2.type=1)
  (k0:P.underlying f0.type=some (.int .i64)) (k1:P.underlying f1.type=some (.int .i64)) (k2:P.underlying f2.type=some (.int .i64))
  {fuel:Nat} {cs:List Value} {x:DataW H×List MemPlace} (h:DataW.trod enc P w base spare held fuel t cs=some x):
  ∃(ao:Option Addr) (b off cap:Nat) (L:List Prg),cs=[.slice ao L.length cap]∧GArg w ao b off L∧∀p ∈ L,∀o ∈ p.2,small o.1:=by
 obtain⟨ao,b,off,cap,L,h1,h2,h3⟩:=core_slice (α:=Prg) ht hC (fun ad y=>(∃(ai:Option Addr) (bi oi ci:Nat),w.cell? (ad.add 0)=some (.bool y.1)∧w.cell? (ad.add 1)=some (.slice ai y.2.length ci)∧OArg w ai bi oi y.2)∧∀o ∈ y.2,small o.1) (false,[]) (fun ad cs' n x hl hat hx=>by
  obtain⟨ys,n',_,_,_,hyl,hg⟩:=DataW.trod_struct he hx
  simp only [List.size_toArray,List.length_cons,List.length_nil] at hyl
  have t0:=hg 0 g0 rfl
  have t1:=hg 1 g1 rfl
  rw [q0,d0] at t0
  rw [q1,d1,hg1] at t1
  obtain⟨x0,e0⟩:=cut2 (by omega) kb t0
  rw [List.getElem?_eq_getElem (by omega)] at t1
  obtain⟨ai,bi,oi,ci,M,hM,hO,hs⟩:=core_ops htl hCo heo o0 o1 o2 c0 c1 c2 k0 k1 k2 t1
  exact⟨(x0,M),⟨ai,bi,oi,ci,by rw [hat 0 (by omega),e0],by rw [hat 1 (by omega),cell_cut hM],hO⟩,hs⟩) (fun ad y hq=>by
  obtain⟨_,_,_,_,h0,_⟩:=hq.1
  rw [add_zero] at h0
  exact spot_none h0) h
 refine⟨ao,b,off,cap,L,h1,⟨h2,fun i hi=>?_⟩,fun p hp=>?_⟩
 ·obtain⟨ai,bi,oi,ci,e0,e1,e2⟩:=(h3 i hi).1
  exact⟨ai,bi,oi,ci,by simpa [Addr.add_lit] using e0,by simpa [Addr.add_lit] using e1,e2⟩
 ·obtain⟨i,hi,rfl⟩:=List.getElem_of_mem hp
  exact (h3 i hi).2
end
end Go.Proofs.YtbnhnnccioljhaaGreatDoor
namespace Go.Proofs.YtbnhnnccioljhaaGreatDoor
open Go.RowKit
def smallS (s:Stp):Bool:=decide (s.2.2.1.length≤12)&&(decide (s.2.2.2.1.length≤12)&&(decide (s.2.2.2.2.length≤12)&&s.2.2.2.2.all (fun p=>decide (p.2.length≤20))))
theorem smallS_size {s:Stp} (h:smallS s=true) (hs:∀p ∈ s.2.2.2.2,∀o ∈ p.2,small o.1):SSize s:=by
 simp only [smallS,Bool.and_eq_true,decide_eq_true_eq,List.all_eq_true] at h
 obtain⟨h1,h2,h3,h4⟩:=h
 exact⟨by omega,by omega,by omega,fun x hx=>⟨by have:=h4 x hx;omega,hs x hx⟩⟩
structure SyX (w W:World) (cs:Array Value):Prop where
 box:W.heap[w.heap.size]?=some (.cells cs 26 (0,0))
 bel:Below w.heap.size w W
theorem SyX.below {w W W':World} {cs:Array Value} (h:SyX w W cs) (hb:Below W.heap.size W W'):SyX w W' cs:=
 ⟨(hb.block _ (lt_of_block h.box)).trans h.box,h.bel.trans (hb.mono h.bel.size)⟩
theorem ssmall_any (s:Stp) (ag:Option Addr) (bg og cg:Nat) (al:Option Addr) (bl ol cl:Nat) (ap:Option Addr) (bp op cp:Nat) (w:World) (h:SArg w s ag bg og al bl ol ap bp op):
  Calls Tryz.prog 7 #[.agg (stC s.1 s.2.1 ag s.2.2.1.length cg al s.2.2.2.1.length cl ap s.2.2.2.2.length cp)] w fun e w'=>e= .returned (.bool (smallS s))∧Below w.heap.size w w':=by
 obtain⟨c,g,gs,ls,ps⟩:=s
 have HP:=xhd h.ps
 simp only at HP ⊢
 obtain⟨A,hA⟩:∃A,smallS (c,g,gs,ls,ps)=A:=⟨_,rfl⟩
 rw [hA]
 obtain⟨ng,hng⟩:∃n,gs.length=n:=⟨_,rfl⟩
 obtain⟨nl,hnl⟩:∃n,ls.length=n:=⟨_,rfl⟩
 obtain⟨np,hnp⟩:∃n,ps.length=n:=⟨_,rfl⟩
 have HA:Hid (A=(decide (ng≤12)&&(decide (nl≤12)&&(decide (np≤12)&&ps.all (fun p=>decide (p.2.length≤20)))))):=xhd (by rw [←hA, ←hng, ←hnl, ←hnp];rfl)
 have HNP:=xhd hnp
 have HB0:=xhd ((Below.refl _ w).alloc (Nat.le_refl _) (.cells (stC c g ag ng cg al nl cl ap np cp) 26))
 rw [hng,hnl,hnp]
 clear h hA hng hnl hnp
 by_cases h1:ng≤12
 ·have g1:¬(12:Int) < ng:=by omega
  by_cases h2:nl≤12
  ·have g2:¬(12:Int) < nl:=by omega
   by_cases h3:np≤12
   ·have g3:¬(12:Int) < np:=by omega
    have HA1:Hid (A=ps.all (fun p=>decide (p.2.length≤20))):=xhd (by rw [HA.out];simp [h1,h2,h3])
    obtain⟨W0,hW0⟩:∃W0,w.alloc (.cells (stC c g ag ng cg al nl cl ap np cp) 26)=W0:=⟨_,rfl⟩
    have HW0:=xhd hW0
    have HBW:=HB0
    rw [hW0] at HBW
    clear hW0
    go_enter Tryz.func7,Tryz.ntmps7
    go_wp2_with fail
    rw [HW0.out]
    go_loopw [24] (fun s wr=>∃i:Nat,s= .int .i64 (i:Nat)∧i≤np∧Hid (Below w.heap.size w wr)∧Hid (∀j (hj:j < ps.length),j < i→decide ((ps[j]).2.length≤20)=true)) (fun s _=>np - (intOf s).toNat)
    case atStart=>exact⟨0,rfl,Nat.zero_le _,HBW,fun j _ hj=>absurd hj (Nat.not_lt_zero _)⟩
    case round=>
     obtain⟨i,rfl,hi,HB,HO⟩:=hrel
     by_cases hlt:i < np
     ·have hiL:i < ps.length:=by rw [HNP.out];exact hlt
      have hA:=HP.out.below HB.out
      obtain⟨rfl,hbl⟩:=hA.at_ (by omega)
      obtain⟨ai,bi,oi,ci,x0,x1, -⟩:=hA.cells i hiL
      obtain⟨⟨pf,pl⟩,hx⟩:∃x,ps[i]=x:=⟨_,rfl⟩
      simp only [hx] at x0 x1
      obtain⟨k,hk⟩:∃k,pl.length=k:=⟨_,rfl⟩
      rw [hk] at x1
      have HX:Hid (decide ((ps[i]).2.length≤20)=decide (k≤20)):=xhd (by rw [hx, ←hk])
      have i0:(0:Int)≤i:=by omega
      have i1:(i:Int) < np:=by omega
      have i2:IntKind.i64.wrap ((i:Int)+1)=(i:Int)+1:=by rw [IntKind.wrap_i64];omega
      have HB2:=xhd (HB.out.alloc HB.out.size (.cells #[.bool pf, .slice ai k ci] 49))
      clear hA hx hk
      by_cases h20:k≤20
      ·have g20:¬(20:Int) < k:=by omega
       have HO2:Hid (∀j (hj:j < ps.length),j < i+1→decide ((ps[j]).2.length≤20)=true):=xhd (fun j hj hji=>by
        rcases Nat.lt_or_ge j i with h|h
        ·exact HO.out j hj h
        ·obtain rfl:j=i:=by omega
         rw [HX.out]
         exact decide_eq_true h20)
       go_wp2
       go_roundw
       case rel=>exact⟨i+1,by go_num,by omega,HB2,HO2⟩
       case measure=>simp [intOf];omega
      ·have g20:(20:Int) < k:=by omega
       have HE:Hid (A=false):=xhd (by
        rw [HA1.out,List.all_eq_false]
        exact⟨_,List.getElem_mem hiL,by rw [HX.out];simpa using h20⟩)
       go_wp2
       go_ret
       exact⟨congrArg (fun x=>Ending.returned (.bool x)) HE.out.symm,HB2.out⟩
     ·have HE:Hid (A=true):=xhd (by
        rw [HA1.out,List.all_eq_true]
        intro o ho
        obtain⟨j,hj,rfl⟩:=List.getElem_of_mem ho
        exact HO.out j hj (by have:=HNP.out;omega))
      have ni:¬(i:Int) < np:=by omega
      go_wp2
      go_ret
      exact⟨congrArg (fun x=>Ending.returned (.bool x)) HE.out.symm,HB.out⟩
   ·have g3:(12:Int) < np:=by omega
    have HE:Hid (A=false):=xhd (by rw [HA.out];simp [h3])
    go_enter Tryz.func7,Tryz.ntmps7
    go_wp2
    go_ret
    exact⟨congrArg (fun x=>Ending.returned (.bool x)) HE.out.symm,HB0.out⟩
  ·have g2:(12:Int) < nl:=by omega
   have HE:Hid (A=false):=xhd (by rw [HA.out];simp [h2])
   go_enter Tryz.func7,Tryz.ntmps7
   go_wp2
   go_ret
   exact⟨congrArg (fun x=>Ending.returned (.bool x)) HE.out.symm,HB0.out⟩
 ·have g1:(12:Int) < ng:=by omega
  have HE:Hid (A=false):=xhd (by rw [HA.out];simp [h1])
  go_enter Tryz.func7,Tryz.ntmps7
  go_wp2
  go_ret
  exact⟨congrArg (fun x=>Ending.returned (.bool x)) HE.out.symm,HB0.out⟩
end Go.Proofs.YtbnhnnccioljhaaGreatDoor
