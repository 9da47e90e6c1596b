/-
  What a Parse of setups answers.
  The program's lines of a setup.
  A line's words. (Made by gen_splnw.py.)
  Scripts as values, and as they are read.
  Same of scripts, the program's and the document's, where the setups are the same, and the acts are, or are more.
-/
import Derived.Test.YtbnhnnccioljhaaGreatDoorZBF
import Derived.Test.YtbnhnnccioljhaaGreatDoorZAH
import Derived.Test.YtbnhnnccioljhaaGreatDoorZAK
import Derived.Test.YtbnhnnccioljhaaGreatDoorZAF
import Derived.Test.YtbnhnnccioljhaaGreatDoorZBH
import Derived.Test.YtbnhnnccioljhaaGreatDoorZAA
import Derived.Test.YtbnhnnccioljhaaGreatDoorZBA
import Derived.Test.YtbnhnnccioljhaaGreatDoorZAZ
import Derived.Test.YtbnhnnccioljhaaGreatDoorZAS
import Derived.Test.YtbnhnnccioljhaaGreatDoorZAl
set_option maxRecDepth 100000
set_option maxHeartbeats 25600000
namespace Go.Proofs.YtbnhnnccioljhaaGreatDoor
open Go.RowKit
theorem sarg_none (w:World):SArg w noneS none 0 0 none 0 0 none 0 0:=
 ⟨⟨fun h=>absurd h (by decide),fun i hi=>absurd hi (Nat.not_lt_zero _)⟩,⟨fun h=>absurd h (by decide),fun i hi=>absurd hi (Nat.not_lt_zero _)⟩,⟨fun h=>absurd h (by decide),fun i hi=>absurd hi (Nat.not_lt_zero _)⟩⟩
def SKept (n:Nat) (w:World) (s:Stp) (ag:Option Addr) (bg og:Nat) (al:Option Addr) (bl ol:Nat) (ap:Option Addr) (bp op:Nat):Prop:=
 ∀W:World,(∀k,n≤k→k < w.heap.size→W.heap[k]?=w.heap[k]?)→SArg W s ag bg og al bl ol ap bp op
theorem SKept.mono {n m:Nat} {w:World} {s:Stp} {ag:Option Addr} {bg og:Nat} {al:Option Addr} {bl ol:Nat} {ap:Option Addr} {bp op:Nat} (h:SKept m w s ag bg og al bl ol ap bp op) (hn:n≤m):SKept n w s ag bg og al bl ol ap bp op:=
 fun W hW=>h W fun k hk hl=>hW k (by omega) hl
def blkOf:Option Addr→Nat
 |some a=>a.block
 |none=>0
theorem skept_of_rows {base:Nat} {V:World} {ag al ap:Option Addr} {ng cg nl cl np cp:Nat} {c g:Int} {gs:List Int} {ls:List Lk} {xs:List (Prg×Value)} (h1:GRow base V (.slice ag ng cg) gs) (h2:LkRow base V (.slice al nl cl) ls) (h3:PRow base V (.slice ap np cp) xs) (h4:∀x ∈ xs,ORow base V x.2 x.1.2):
  SKept base V (c,g,gs,ls,xs.map (·.1)) ag (blkOf ag) 0 al (blkOf al) 0 ap (blkOf ap) 0:=by
 intro W hW
 have hrow:∀(e:TypeId) (size n:Nat) (u:Value) (ys:List Value),V.ownsRow base e size u n ys→W.ownsRow base e size u n ys:=fun e size n u ys hu=>ownsRow_same hu fun k hk hl=>hW k (hu.lt k (by simpa using hk)).1 hl
 obtain⟨a1,b1,c1,e1,k1⟩:=IArg.of_row (hrow _ _ _ _ _ h1)
 obtain⟨a2,b2,c2,e2,k2⟩:=LArg.of_row (hrow _ _ _ _ _ h2)
 obtain⟨a3,b3,c3,e3,k3⟩:=GArg.of_row (hrow _ _ _ _ _ h3) (fun x hx=>hrow _ _ _ _ _ (h4 x hx))
 injection e1 with e1
 injection e2 with e2
 injection e3 with e3
 subst e1 e2 e3
 refine⟨?_,?_,?_⟩
 ·by_cases h0:0 < gs.length
  ·have ha:=(k1.at_ h0).1
   rw [ha] at k1 ⊢
   exact k1
  ·exact⟨fun h=>absurd h h0,fun i hi=>absurd (Nat.lt_of_le_of_lt (Nat.zero_le _) hi) h0⟩
 ·by_cases h0:0 < ls.length
  ·have ha:=(k2.at_ h0).1
   rw [ha] at k2 ⊢
   exact k2
  ·exact⟨fun h=>absurd h h0,fun i hi=>absurd (Nat.lt_of_le_of_lt (Nat.zero_le _) hi) h0⟩
 ·by_cases h0:0 < (xs.map (·.1)).length
  ·have ha:=(k3.at_ h0).1
   rw [ha] at k3 ⊢
   exact k3
  ·exact⟨fun h=>absurd h h0,fun i hi=>absurd (Nat.lt_of_le_of_lt (Nat.zero_le _) hi) h0⟩
def ParseSK (R:Stp×Int×Int) (w:World) (e:Ending) (w':World):Prop:=
 ∃(ag:Option Addr) (bg og cg:Nat) (al:Option Addr) (bl ol cl:Nat) (ap:Option Addr) (bp op cp:Nat),e= .returned (.tuple #[.agg (stC R.1.1 R.1.2.1 ag R.1.2.2.1.length cg al R.1.2.2.2.1.length cl ap R.1.2.2.2.2.length cp), .int .i64 R.2.1, .int .i64 R.2.2])∧SKept w.heap.size w' R.1 ag bg og al bl ol ap bp op∧Below w.heap.size w w'
theorem parse_badS {R:Stp×Int×Int} {x y:Int} (h:R=(noneS,x,y)) {w w':World} (hb:Below w.heap.size w w'):ParseSK R w (.returned (.tuple #[.agg zeroSt, .int .i64 x, .int .i64 y])) w':=by
 subst h
 exact⟨none,0,0,0,none,0,0,0,none,0,0,0,rfl,fun W _=>sarg_none W,hb⟩
theorem st_res {fn:Func} {p q r:Tmp} (hf:fn.results= #[.cell p 26, .tmp q, .tmp r]) {tmps:Array Value} {W:World} {B:Nat} {a b c d e x y:Value} (hp:tmps.getD p undef= .pointer (some ⟨B,0,none⟩)) (hq:tmps.getD q undef=x) (hr:tmps.getD r undef=y) (h:W.heap[B]?=some (.cells #[a,b,c,d,e] 26 (0,0))):
  (results fn tmps).run Tryz.prog W= .ok (.tuple #[.agg #[a,b,c,d,e],x,y]) W:=by
 obtain⟨c0,c1,c2,c3,c4,_⟩:=five_cells h
 rw [results_cell_tmp2 hf,hp]
 simp [loadVar,go_sem,c0,c1,c2,c3,c4, ←hq, ←hr]
abbrev Ln:=ByteArray×List Vn
def lockLn (x:Lk):Ln:=(lkF x.1,(lkN x.1).map fun y=>(y.1,y.2.1,valAt (lkA x) y.2.2))
def groupLn (n:Int):Ln:=(⟨#[103,114,111,117,112]⟩,[(⟨#[]⟩,16,n)])
def linesR (s:Stp):List Ln:=[(⟨#[99,111,114,101,115]⟩,[(⟨#[]⟩,4,s.1)]),(⟨#[103,114,97,105,110]⟩,[(⟨#[]⟩,8,s.2.1)])]++s.2.2.1.map groupLn++s.2.2.2.1.map lockLn
def lnC (x:Ln×Value):List Value:=[.string x.1.1,x.2]
theorem lnC_len (x:Ln×Value):(lnC x).length=2:=rfl
theorem line_info:(Tryz.prog.info? 86).map (fun i=>(i.zero,i.size,i.bytes))=some (some (.agg #[.string ⟨#[]⟩, .slice none 0 0]),2,40):=by kernel_rfl
structure LsI (w V:World) (v:Value) (xs:List (Ln×Value)):Prop where
 row:V.ownsRow w.heap.size 86 2 v xs.length (cellsOf lnC xs)
 num:∀x ∈ xs,∃nb nc,x.2= .slice (some ⟨nb,0,none⟩) x.1.2.length nc∧QArg V nb 0 x.1.2
 bel:Below w.heap.size w V
theorem LsI.below {w V V':World} {v:Value} {xs:List (Ln×Value)} (h:LsI w V v xs) (hb:Below V.heap.size V V'):LsI w V' v xs:=
 ⟨row_below h.row hb,fun x hx=>by
   obtain⟨nb,nc,e,q⟩:=h.num x hx
   exact⟨nb,nc,e,q.below hb⟩,h.bel.trans (hb.mono h.bel.size)⟩
theorem LsI.push {w V w4:World} {v v':Value} {xs:List (Ln×Value)} {x:Ln×Value} (h:LsI w V v xs) (hx:∃nb nc,x.2= .slice (some ⟨nb,0,none⟩) x.1.2.length nc∧QArg V nb 0 x.1.2)
  (hown:w4.ownsRow w.heap.size 86 2 v' (xs.length+1) (cellsOf lnC xs++lnC x)) (hg:V.grownBy w4 v.ownBlock):LsI w w4 v' (xs++[x]):=by
 have hb:Below w.heap.size V w4:=app_below (Below.refl _ _) h.bel.size (Nat.le_refl _) h.row hg
 have hq:∀ {nb:Nat} {M:List Vn},QArg V nb 0 M→QArg w4 nb 0 M:=fun q=>q.same fun k X t f hk ht=>hg.block k (lt_of_block hk) (fun e=>by
  obtain⟨cur,hc⟩:=ownsRow_type h.row k (by simp [←e])
  rw [hc] at hk
  injection hk with hk
  injection hk with _ h2 _
  exact ht h2.symm)
 refine⟨?_,fun y hy=>?_,h.bel.trans hb⟩
 ·rw [cellsOf_snoc,List.length_append,List.length_singleton]
  exact hown
 ·rcases List.mem_append.1 hy with hy|hy
  ·obtain⟨nb,nc,e,q⟩:=h.num y hy
   exact⟨nb,nc,e,hq q⟩
  ·simp only [List.mem_singleton] at hy
   subst hy
   obtain⟨nb,nc,e,q⟩:=hx
   exact⟨nb,nc,e,hq q⟩
structure LsArg (w:World) (b:Nat) (L:List Ln):Prop where
 lt:b < w.heap.size
 cells:∀i (hi:i < L.length),∃nb nc,w.cell? ⟨b,i*2,none⟩=some (.string L[i].1)∧w.cell? ⟨b,i*2+1,none⟩=some (.slice (some ⟨nb,0,none⟩) L[i].2.length nc)∧QArg w nb 0 L[i].2
theorem LsArg.below {w w':World} {b:Nat} {L:List Ln} (h:LsArg w b L) (hb:Below w.heap.size w w'):LsArg w' b L:=by
 refine⟨Nat.lt_of_lt_of_le h.lt hb.size,fun i hi=>?_⟩
 obtain⟨nb,nc,h0,h1,h2⟩:=h.cells i hi
 exact⟨nb,nc,(hb.cell (p:=⟨b,i*2,none⟩) h.lt).trans h0,(hb.cell (p:=⟨b,i*2+1,none⟩) h.lt).trans h1,h2.below hb⟩
theorem LsArg.of {w V:World} {v:Value} {xs:List (Ln×Value)} (h:LsI w V v xs) (h0:0 < xs.length):∃b cap,v= .slice (some ⟨b,0,none⟩) xs.length cap∧LsArg V b (xs.map (·.1)):=by
 obtain⟨g,cap,rfl,_,_⟩:=ownsRow_pos h.row h0
 refine⟨g,cap,rfl,(h.row.lt g (by simp [Value.ownBlock])).2,fun i hi=>?_⟩
 have hi2:i < xs.length:=by simpa using hi
 obtain⟨nb,nc,e,q⟩:=h.num xs[i] (List.getElem_mem hi2)
 have hk:∀q,q < 2→V.cell? ⟨g,i*2+q,none⟩=(lnC xs[i])[q]?:=fun q hq=>by
  rw [h.row.cellAt _ (by omega)]
  exact cellsOf_get lnC_len xs i q hi2 hq
 simp only [List.getElem_map]
 refine⟨nb,nc,hk 0 (by omega),?_,q⟩
 rw [hk 1 (by omega), ←e]
 rfl
theorem lnC_one {x:Ln×Value} (hx:x.2.oneCell'=true):∀u ∈ lnC x,u.oneCell'=true:=by
 intro u hu
 simp only [lnC,List.mem_cons,List.not_mem_nil,or_false] at hu
 rcases hu with rfl|rfl
 ·rfl
 ·exact hx
theorem line_new (W:World) (a v:Value):∀(j:Nat) (u:Value),([a,v]:List Value)[j]?=some u→(W.alloc (.cells #[a,v] 86)).cell? ((⟨W.heap.size,0,none⟩:Addr).add j)=some u:=by
 intro j u hu
 have h:=heap_alloc_new W (.cells #[a,v] 86)
 have e:((⟨W.heap.size,0,none⟩:Addr).add j)=⟨W.heap.size,j,none⟩:=by
  cases j<;>simp [Addr.add]
 rw [e]
 have hj:j < 2:=by
  obtain⟨hj, -⟩:=List.getElem?_eq_some_iff.1 hu
  simpa using hj
 rw [cell_at h (by simpa using hj)]
 have:=(List.getElem?_eq_some_iff.1 hu).2
 simpa using this
theorem lock_vals (x:Lk):∀y ∈ lkN x.1,(lkA x)[y.2.2]?=some (.int .i64 (valAt (lkA x) y.2.2)):=by
 obtain⟨sh,a,b,c,d⟩:=x
 intro y hy
 cases sh with
 |true=>
  simp only [lkN,if_true,List.mem_cons,List.not_mem_nil,or_false] at hy
  rcases hy with rfl|rfl|rfl|rfl<;>rfl
 |false=>
  simp only [lkN,Bool.false_eq_true,if_false,List.mem_cons,List.not_mem_nil,or_false] at hy
  rcases hy with rfl|rfl<;>rfl
theorem LsI.two {w V:World} (hb:Below w.heap.size w V) {a1 a2:Ln} {n1 c1 n2 c2:Nat} (q1:QArg V n1 0 a1.2) (q2:QArg V n2 0 a2.2):
  LsI w (V.alloc (.cells #[.string a1.1, .slice (some ⟨n1,0,none⟩) a1.2.length c1, .string a2.1, .slice (some ⟨n2,0,none⟩) a2.2.length c2] 86)) (.slice (some ⟨V.heap.size,0,none⟩) 2 2) [(a1, .slice (some ⟨n1,0,none⟩) a1.2.length c1),(a2, .slice (some ⟨n2,0,none⟩) a2.2.length c2)]:=by
 have hb2:Below V.heap.size V (V.alloc (.cells #[.string a1.1, .slice (some ⟨n1,0,none⟩) a1.2.length c1, .string a2.1, .slice (some ⟨n2,0,none⟩) a2.2.length c2] 86)):=(Below.refl _ _).alloc (Nat.le_refl _) _
 refine⟨⟨rfl, .inr ⟨V.heap.size,2,_,rfl,hb.size,heap_alloc_new _ _,Nat.le_refl _,by decide,rfl,rfl⟩⟩,fun x hx=>?_,hb.trans (hb2.mono hb.size)⟩
 simp only [List.mem_cons,List.not_mem_nil,or_false] at hx
 rcases hx with rfl|rfl
 ·exact⟨n1,c1,rfl,q1.below hb2⟩
 ·exact⟨n2,c2,rfl,q2.below hb2⟩
theorem lines_any (s:Stp) (ag:Option Addr) (bg og cg:Nat) (al:Option Addr) (bl ol cl:Nat) (ap:Option Addr) (bp op cp:Nat) (w:World) (h:SArg w s ag bg og al bl ol ap bp op) (z1:s.2.2.1.length≤100) (z2:s.2.2.2.1.length≤100):
  Calls Tryz.prog 43 #[.agg (stC s.1 s.2.1 ag s.2.2.1.length cg al s.2.2.2.1.length cl ap s.2.2.2.2.length cp)] w fun e w'=>∃b n cap,e= .returned (.slice (some ⟨b,0,none⟩) n cap)∧n=(linesR s).length∧LsArg w' b (linesR s)∧Below w.heap.size w w':=by
 obtain⟨i0,hi0,hz0,hz1,hz2⟩:=info_parts line_info
 obtain⟨c,g,gs,ls,ps⟩:=s
 obtain⟨h1,h2,h3⟩:=h
 simp only at h1 h2 h3 z1 z2 ⊢
 have HGA:=xhd h1
 have HLA:=xhd h2
 obtain⟨LN,hLN⟩:∃LN,linesR (c,g,gs,ls,ps)=LN:=⟨_,rfl⟩
 have HLN:=xhd hLN
 rw [hLN]
 obtain⟨np,hnp⟩:∃n,ps.length=n:=⟨_,rfl⟩
 obtain⟨nl,hnl⟩:∃n,ls.length=n:=⟨_,rfl⟩
 obtain⟨ng,hng⟩:∃n,gs.length=n:=⟨_,rfl⟩
 have HNG:=xhd hng
 have HNL:=xhd hnl
 rw [hng] at z1
 rw [hnl] at z2
 rw [hnp,hnl,hng]
 have HB0:=xhd ((Below.refl w.heap.size w).alloc (Nat.le_refl _) (.cells (stC c g ag ng cg al nl cl ap np cp) 26))
 have HX0:=xhd (heap_alloc_new w (.cells (stC c g ag ng cg al nl cl ap np cp) 26))
 clear h1 h2 h3 hLN hnp hnl hng
 go_enter Tryz.func43,Tryz.ntmps43
 go_wp2_with fail
 refine (coresline_any w.heap.size 0 _).mono ?_
 rintro r w1 ⟨n1,c1,rfl,hN1, -,hb1⟩
 have HX1:=xhd ((hb1.block _ (lt_of_block HX0.out)).trans HX0.out)
 have HB1:=xhd (HB0.out.trans (hb1.mono HB0.out.size))
 have HQ1:=xhd (QArg.of hN1 HX1.out (by decide) (by simp [valAt]))
 clear hN1 hb1
 simp only [List.length_singleton]
 go_wp2_with fail
 refine (grainline_any w.heap.size 1 _).mono ?_
 rintro r w2 ⟨n2,c2,rfl,hN2, -,hb2⟩
 have HX2:=xhd ((hb2.block _ (lt_of_block HX1.out)).trans HX1.out)
 have HB2:=xhd (HB1.out.trans (hb2.mono HB1.out.size))
 have HQ2:=xhd (QArg.of hN2 HX2.out (by decide) (by simp [valAt]))
 have HQ1b:=xhd (HQ1.out.below hb2)
 have HL2:=xhd (LsI.two HB2.out (a1:=(⟨#[99,111,114,101,115]⟩,[(⟨#[]⟩,4,c)])) (a2:=(⟨#[103,114,97,105,110]⟩,[(⟨#[]⟩,8,g)])) (c1:=c1) (c2:=c2) HQ1b.out HQ2.out)
 have HX3:=xhd ((Below.heap_alloc w2 (.cells #[.string ⟨#[99,111,114,101,115]⟩, .slice (some ⟨n1,0,none⟩) 1 c1, .string ⟨#[103,114,97,105,110]⟩, .slice (some ⟨n2,0,none⟩) 1 c2] 86) _ (lt_of_block HX2.out)).trans HX2.out)
 clear hN2 hb2
 simp only [List.length_singleton]
 have hx2:=st_cells HX2.out
 obtain⟨x0,x1,x2,x3,x4⟩:=hx2
 have hl2:=lt_of_block HX2.out
 have HS:Hid (∀V,Below w.heap.size w V→V.heap[w.heap.size]?=some (.cells (stC c g ag ng cg al nl cl ap np cp) 26 (0,0))→V.heap[w.heap.size]?=some (.cells (stC c g ag ng cg al nl cl ap np cp) 26 (0,0))):=xhd (fun _ _ h=>h)
 clear HS
 go_wp2_with fail
 go_loopw [3,16] (fun l' i' wr=>∃(i:Nat) (v:Value) (xs:List (Ln×Value)),l'=v∧i'= .int .i64 (i:Nat)∧i≤ng∧xs.length=i+2∧Hid (LsI w wr v xs)∧Hid (wr.heap[w.heap.size]?=some (.cells (stC c g ag ng cg al nl cl ap np cp) 26 (0,0)))∧Hid (xs.map (·.1)=(linesR (c,g,gs,[],[])).take (i+2))) (fun _ i' _=>ng - (intOf i').toNat)
 case atStart=>exact⟨0,_,_,rfl,rfl,Nat.zero_le _,rfl,HL2,HX3,xhd rfl⟩
 case round=>
  obtain⟨i,v,xs,rfl,rfl,hi,hxl,HI,HX,HM⟩:=hrel
  obtain⟨av,cv,hv,_⟩:=ownsRow_shape HI.out.row
  subst hv
  rw [hxl] at HI ⊢
  have HXL:=xhd hxl
  by_cases hlt:i < ng
  ·have hiL:i < gs.length:=by rw [HNG.out];exact hlt
   have hA:=HGA.out.below HI.out.bel
   obtain⟨rfl,hbl⟩:=hA.at_ (by omega)
   have y0:=hA.cells i hiL
   obtain⟨x,hx⟩:∃x,gs[i]=x:=⟨_,rfl⟩
   rw [hx] at y0
   have HXX:=xhd hx
   have j0:(0:Int)≤i:=by omega
   have i1:(i:Int) < ng:=by omega
   have i2:IntKind.i64.wrap ((i:Int)+1)=(i:Int)+1:=by rw [IntKind.wrap_i64];omega
   have HIA:=xhd (HI.out.below ((Below.refl _ wr).alloc (Nat.le_refl _) (.cells #[.int .i64 x] 3)))
   have HXA:=xhd ((Below.heap_alloc wr (.cells #[.int .i64 x] 3) _ (lt_of_block HX.out)).trans HX.out)
   have HTA:=xhd (heap_alloc_new wr (.cells #[.int .i64 x] 3))
   clear hx hA hxl
   go_wp2_with fail
   refine (groupline_any wr.heap.size 0 _).mono ?_
   rintro r w3 ⟨nb,nc,rfl,hN, -,hb⟩
   have HI3:=xhd (HIA.out.below hb)
   have HX3:=xhd ((hb.block _ (lt_of_block HXA.out)).trans HXA.out)
   have HQ3:=xhd (QArg.of hN ((hb.block _ (lt_of_block HTA.out)).trans HTA.out) (by decide) (by simp [valAt]))
   simp only [List.length_singleton]
   have HI4:=xhd (HI3.out.below ((Below.refl _ w3).alloc (Nat.le_refl _) (.cells #[.string ⟨#[103,114,111,117,112]⟩, .slice (some ⟨nb,0,none⟩) 1 nc] 86)))
   have HX4:=xhd ((Below.heap_alloc w3 (.cells #[.string ⟨#[103,114,111,117,112]⟩, .slice (some ⟨nb,0,none⟩) 1 nc] 86) _ (lt_of_block HX3.out)).trans HX3.out)
   have HQ4:=xhd (HQ3.out.below ((Below.refl _ w3).alloc (Nat.le_refl _) (.cells #[.string ⟨#[103,114,111,117,112]⟩, .slice (some ⟨nb,0,none⟩) 1 nc] 86)))
   clear hN hb y0 x0 x1 x2 x3 x4 hl2
   go_wp2_with (at_builtin;refine wpList_append_own _ rfl _ _ 82 rfl w.heap.size 86 i0 (.agg #[.string ⟨#[]⟩, .slice none 0 0]) 2 40 Tryz.underlying82 hi0 hz0 hz1 hz2 rfl (by decide) _ _ _ rfl HI4.out.row ⟨_,0,none⟩ 1 1 [.string ⟨#[103,114,111,117,112]⟩, .slice (some ⟨nb,0,none⟩) 1 nc] rfl rfl ?c1 ?c2 ?c3 ?c4 ?c5 ?_)
   case c1=>exact line_new _ _ _
   case c2=>exact lnC_one (x:=(groupLn x, .slice (some ⟨nb,0,none⟩) 1 nc)) rfl
   case c3=>(have:=HXL.out;unfold maxLen;omega)
   case c4=>(have:=HXL.out;omega)
   case c5=>exact Nat.le_trans HI3.out.bel.size (by simp)
   intro v' w6 hown hgrow _
   have hin:=HI4.out.push (x:=(groupLn x, .slice (some ⟨nb,0,none⟩) 1 nc)) ⟨nb,nc,rfl,HQ4.out⟩ hown hgrow
   have HX6:=xhd ((hgrow.block _ (lt_of_block HX4.out) (block_off HX4.out HI4.out.row (by decide))).trans HX4.out)
   have HIN:=xhd hin
   have hml:(xs++[(groupLn x,Value.slice (some ⟨nb,0,none⟩) 1 nc)]).length=i+1+2:=by
    rw [List.length_append,List.length_singleton,HXL.out]
   have HMN:Hid ((xs++[(groupLn x,Value.slice (some ⟨nb,0,none⟩) 1 nc)]).map (·.1)=(linesR (c,g,gs,[],[])).take (i+1+2)):=xhd (by
    rw [List.map_append,HM.out,List.map_singleton]
    have h1:i+2 < (linesR (c,g,gs,[],[])).length:=by simp [linesR];omega
    have h2:(linesR (c,g,gs,[],[]))[i+2]=groupLn x:=by
     simp [linesR,HXX.out]
    rw [show i+1+2=i+2+1 by omega, ←List.take_append_getElem h1,h2])
   obtain⟨ao4,cap4,hv4,_⟩:=ownsRow_shape hown
   subst hv4
   clear hown hgrow hin
   go_wp2
   go_roundw
   case rel=>exact⟨i+1,_,_,rfl,by go_num,by omega,hml,HIN,HX6,HMN⟩
   case measure=>simp [intOf];omega
  ·obtain rfl:i=ng:=by omega
   have hbase:Hid (xs.map (·.1)=linesR (c,g,gs,[],[])):=xhd (by
    rw [HM.out]
    exact List.take_of_length_le (by simp [linesR,HNG.out]))
   obtain⟨x0,x1,x2,x3,x4⟩:=st_cells HX.out
   have hl3:=lt_of_block HX.out
   have HX5:=HX
   have HI5:=HI
   have HNI:=HNG
   clear hlt hi HGA hxl
   go_wp2_with fail
   go_loopw [3,28] (fun l' i' wr=>∃(j:Nat) (v:Value) (xs:List (Ln×Value)),l'=v∧i'= .int .i64 (j:Nat)∧j≤nl∧xs.length=j+(i+2)∧Hid (LsI w wr v xs)∧Hid (wr.heap[w.heap.size]?=some (.cells (stC c g ag i cg al nl cl ap np cp) 26 (0,0)))∧Hid (xs.map (·.1)=(linesR (c,g,gs,ls,[])).take (j+(i+2)))) (fun _ i' _=>nl - (intOf i').toNat)
   case atStart=>
    refine⟨0,_,xs,rfl,rfl,Nat.zero_le _,by rw [HXL.out];omega,HI5,HX5,xhd ?_⟩
    rw [hbase.out,Nat.zero_add]
    simp [linesR,HNI.out]
   case round=>
    obtain⟨j,v,ys,rfl,rfl,hj,hyl,HI,HX,HM⟩:=hrel
    obtain⟨av,cv,hv,_⟩:=ownsRow_shape HI.out.row
    subst hv
    have HYL:=xhd hyl
    by_cases hlt:j < nl
    ·have hjL:j < ls.length:=by rw [HNL.out];exact hlt
     have hA:=HLA.out.below HI.out.bel
     obtain⟨rfl,hbl⟩:=hA.at_ (by omega)
     have hcells:=hA.cells j hjL
     obtain⟨⟨sh,sl,cr,rd,wt⟩,hx⟩:∃x,ls[j]=x:=⟨_,rfl⟩
     rw [hx] at hcells
     obtain⟨y0,y1,y2,y3,y4⟩:=hcells
     simp only at y0 y1 y2 y3 y4
     have HXX:=xhd hx
     have j0:(0:Int)≤j:=by omega
     have j1:(j:Int) < nl:=by omega
     have j2:IntKind.i64.wrap ((j:Int)+1)=(j:Int)+1:=by rw [IntKind.wrap_i64];omega
     have HIA:=xhd (HI.out.below ((Below.refl _ wr).alloc (Nat.le_refl _) (.cells #[.bool sh, .int .i64 sl, .int .i64 cr, .int .i64 rd, .int .i64 wt] 100)))
     have HXA:=xhd ((Below.heap_alloc wr (.cells #[.bool sh, .int .i64 sl, .int .i64 cr, .int .i64 rd, .int .i64 wt] 100) _ (lt_of_block HX.out)).trans HX.out)
     have HTA:=xhd (heap_alloc_new wr (.cells #[.bool sh, .int .i64 sl, .int .i64 cr, .int .i64 rd, .int .i64 wt] 100))
     have HLN2:=xhd (lockline_any wr.heap.size _ sh (lt_of_block HTA.out) (five_cells HTA.out).1)
     clear hx hA hyl x0 x1 x2 x3 x4 hl3
     go_wp2_with fail
     refine HLN2.out.mono ?_
     rintro r w3 ⟨nb,nc,rfl,hN, -,hb⟩
     have HI3:=xhd (HIA.out.below hb)
     have HX3:=xhd ((hb.block _ (lt_of_block HXA.out)).trans HXA.out)
     have hq3:QArg w3 nb 0 (lockLn (sh,sl,cr,rd,wt)).2:=QArg.of hN ((hb.block _ (lt_of_block HTA.out)).trans HTA.out) (by decide) (lock_vals (sh,sl,cr,rd,wt))
     have hlen:(lkN sh).length=(lockLn (sh,sl,cr,rd,wt)).2.length:=by simp [lockLn]
     rw [hlen]
     have hfst:lkF sh=(lockLn (sh,sl,cr,rd,wt)).1:=rfl
     rw [hfst]
     obtain⟨lk,hlk⟩:∃lk,lockLn (sh,sl,cr,rd,wt)=lk:=⟨_,rfl⟩
     rw [hlk] at hq3 ⊢
     have HLK:=xhd hlk
     obtain⟨lf,lm⟩:=lk
     simp only at hq3 ⊢
     obtain⟨nm,hnm⟩:∃n,lm.length=n:=⟨_,rfl⟩
     rw [hnm]
     have HNM:=xhd hnm
     have HI4:=xhd (HI3.out.below ((Below.refl _ w3).alloc (Nat.le_refl _) (.cells #[.string lf, .slice (some ⟨nb,0,none⟩) nm nc] 86)))
     have HX4:=xhd ((Below.heap_alloc w3 (.cells #[.string lf, .slice (some ⟨nb,0,none⟩) nm nc] 86) _ (lt_of_block HX3.out)).trans HX3.out)
     have HQ4:=xhd (hq3.below ((Below.refl _ w3).alloc (Nat.le_refl _) (.cells #[.string lf, .slice (some ⟨nb,0,none⟩) nm nc] 86)))
     clear hN hb y0 y1 y2 y3 y4 hq3 hlk hnm hlen hfst
     go_wp2_with (at_builtin;refine wpList_append_own _ rfl _ _ 82 rfl w.heap.size 86 i0 (.agg #[.string ⟨#[]⟩, .slice none 0 0]) 2 40 Tryz.underlying82 hi0 hz0 hz1 hz2 rfl (by decide) _ _ _ rfl HI4.out.row ⟨_,0,none⟩ 1 1 [.string lf, .slice (some ⟨nb,0,none⟩) nm nc] rfl rfl ?c1 ?c2 ?c3 ?c4 ?c5 ?_)
     case c1=>exact line_new _ _ _
     case c2=>exact lnC_one (x:=((lf,lm), .slice (some ⟨nb,0,none⟩) nm nc)) rfl
     case c3=>(have:=HYL.out;unfold maxLen;omega)
     case c4=>(have:=HYL.out;omega)
     case c5=>exact Nat.le_trans HI3.out.bel.size (by simp)
     intro v' w6 hown hgrow _
     have hin:=HI4.out.push (x:=((lf,lm), .slice (some ⟨nb,0,none⟩) nm nc)) ⟨nb,nc,by rw [←HNM.out],HQ4.out⟩ hown hgrow
     have HX6:=xhd ((hgrow.block _ (lt_of_block HX4.out) (block_off HX4.out HI4.out.row (by decide))).trans HX4.out)
     have HIN:=xhd hin
     have hml:(ys++[((lf,lm),Value.slice (some ⟨nb,0,none⟩) nm nc)]).length=j+1+(i+2):=by
      rw [List.length_append,List.length_singleton,HYL.out]
      omega
     have HMN:Hid ((ys++[((lf,lm),Value.slice (some ⟨nb,0,none⟩) nm nc)]).map (·.1)=(linesR (c,g,gs,ls,[])).take (j+1+(i+2))):=xhd (by
      rw [List.map_append,HM.out,List.map_singleton]
      have h1:j+(i+2) < (linesR (c,g,gs,ls,[])).length:=by simp [linesR,HNI.out,HNL.out];omega
      have h3:(linesR (c,g,gs,ls,[]))[j+(i+2)]?=some (lf,lm):=by
       rw [←HLK.out, ←HXX.out]
       unfold linesR
       simp only
       have hal:(([(⟨#[99,111,114,101,115]⟩,[(⟨#[]⟩,4,c)]),(⟨#[103,114,97,105,110]⟩,[(⟨#[]⟩,8,g)])]:List Ln)++gs.map groupLn).length=i+2:=by simp [HNI.out]
       rw [List.getElem?_append_right (by rw [hal];omega),hal,show j+(i+2) - (i+2)=j by omega,List.getElem?_map,List.getElem?_eq_getElem hjL]
       rfl
      have h2:(linesR (c,g,gs,ls,[]))[j+(i+2)]=(lf,lm):=(List.getElem?_eq_some_iff.1 h3).2
      rw [show j+1+(i+2)=j+(i+2)+1 by omega, ←List.take_append_getElem h1,h2])
     obtain⟨ao4,cap4,hv4,_⟩:=ownsRow_shape hown
     subst hv4
     clear hown hgrow hin
     go_wp2
     go_roundw
     case rel=>exact⟨j+1,_,_,rfl,by go_num,by omega,hml,HIN,HX6,HMN⟩
     case measure=>simp [intOf];omega
    ·obtain rfl:j=nl:=by omega
     have hfin:ys.map (·.1)=LN:=by
      rw [HM.out, ←HLN.out]
      exact List.take_of_length_le (by simp [linesR,HNI.out,HNL.out];omega)
     obtain⟨b,cap,hbv,hls⟩:=LsArg.of HI.out (by rw [HYL.out];omega)
     rw [hfin] at hls
     have hle:ys.length=LN.length:=by rw [←hfin,List.length_map]
     have HLS:=xhd hls
     have HLE:=xhd hle
     have HBE:=xhd HI.out.bel
     injection hbv with e1 e2 e3
     subst e1
     clear hls hle hfin x0 x1 x2 x3 x4 hl3 e2 e3
     go_wp2
     go_ret
     exact⟨b,_,_,rfl,HLE.out,HLS.out,HBE.out⟩
def valW (x:Vn):List Wd:=(if x.1=⟨#[]⟩ then [] else [(1,x.1.data.toList,0,0)])++[(2,[],x.2.2,0)]
def lnW (l:Ln):List Wd:=(1,l.1.data.toList,0,0)::l.2.flatMap valW++[(3,[59],0,0)]
structure LwI (w V:World) (first:ByteArray) (lv:Value) (v:Value) (ws:List Wd):Prop where
 row:WRow w.heap.size V v ws
 bel:Below w.heap.size w V
 bx:V.heap[w.heap.size]?=some (.cells #[.string first,lv] 86 (0,0))
theorem LwI.more {w V V':World} {first:ByteArray} {lv v:Value} {ws:List Wd} (h:LwI w V first lv v ws) (hb:Below V.heap.size V V'):LwI w V' first lv v ws:=
 ⟨row_below h.row hb,h.bel.trans (hb.mono h.bel.size),(hb.block _ (lt_of_block h.bx)).trans h.bx⟩
theorem LwI.push {w V w4:World} {first:ByteArray} {lv v v':Value} {ws:List Wd} {x:Wd} {cells:List Value} (h:LwI w V first lv v ws) (hx:wdC x=cells)
  (hown:w4.ownsRow w.heap.size 95 4 v' (ws.length+1) (wdsC ws++cells)) (hg:V.grownBy w4 v.ownBlock):LwI w w4 first lv v' (ws++[x]):=by
 have hb:Below w.heap.size V w4:=app_below (Below.refl _ _) h.bel.size (Nat.le_refl _) h.row hg
 refine⟨?_,h.bel.trans hb,(hg.block _ (lt_of_block h.bx) (block_off h.bx h.row (by decide))).trans h.bx⟩
 unfold WRow
 rw [wdsC_snoc,List.length_append,List.length_singleton,hx]
 exact hown
theorem LwI.start {w V:World} {first:ByteArray} {lv:Value} {x:Wd} {p q r t:Value} (hb:Below w.heap.size w V) (hx:wdC x=[p,q,r,t]) (bx:V.heap[w.heap.size]?=some (.cells #[.string first,lv] 86 (0,0))):LwI w (V.alloc (.cells #[p,q,r,t] 95)) first lv (.slice (some ⟨V.heap.size,0,none⟩) 1 1) [x]:=
 ⟨first_row V _ hb.size _ _ _ _ _ hx,hb.alloc hb.size _,(Below.heap_alloc _ _ _ (lt_of_block bx)).trans bx⟩
theorem wdC_name (s:ByteArray):wdC (1,s.data.toList,0,0)=[.int .i64 1, .string s, .int .i64 0, .int .i64 0]:=by
 unfold wdC
 simp only [Lib.mk_data]
theorem valW_len (x:Vn):(valW x).length≤2:=by
 unfold valW
 split<;>simp
theorem linewords_any (first:ByteArray) (nb nc:Nat) (M:List Vn) (w:World) (h:QArg w nb 0 M) (hm:M.length≤100):
  Calls Tryz.prog 44 #[.agg #[.string first, .slice (some ⟨nb,0,none⟩) M.length nc]] w (WordsP (lnW (first,M)) w):=by
 obtain⟨i0,hi0,hz0,hz1,hz2⟩:=info_parts word_info
 have HQ:=xhd h
 obtain⟨n,hn⟩:∃n,M.length=n:=⟨_,rfl⟩
 have HN:=xhd hn
 have HNM:=xhd (fun s W=>pname_any s W)
 have HMK:=xhd (fun s W=>pmark_any s W)
 have HPN:=xhd (fun n W=>pnum_any n W)
 obtain⟨LW,hLW⟩:∃L,lnW (first,M)=L:=⟨_,rfl⟩
 have HLW:=xhd hLW
 rw [hn] at hm ⊢
 rw [hLW]
 have HB0:=xhd ((Below.refl w.heap.size w).alloc (Nat.le_refl _) (.cells #[.string first, .slice (some ⟨nb,0,none⟩) n nc] 86))
 have HX0:=xhd (heap_alloc_new w (.cells #[.string first, .slice (some ⟨nb,0,none⟩) n nc] 86))
 clear h hn hLW
 go_enter Tryz.func44,Tryz.ntmps44
 go_wp2_with fail
 with_reducible refine (HNM.out _ _).mono ?_
 rintro r w1 ⟨rfl,hb⟩
 have HI1:=xhd (LwI.start (x:=(1,first.data.toList,0,0)) (HB0.out.trans (hb.mono HB0.out.size)) (wdC_name first) ((hb.block _ (lt_of_block HX0.out)).trans HX0.out))
 obtain⟨x0,x1⟩:=two_cells ((hb.block _ (lt_of_block HX0.out)).trans HX0.out)
 have hxl:=lt_of_block ((hb.block _ (lt_of_block HX0.out)).trans HX0.out)
 clear hb
 go_wp2_with fail
 go_loopw [3,13] (fun l' i' wr=>∃(i:Nat) (v:Value) (ws:List Wd),l'=v∧i'= .int .i64 (i:Nat)∧i≤n∧ws.length≤1+2*i∧Hid (LwI w wr first (.slice (some ⟨nb,0,none⟩) n nc) v ws)∧Hid (ws=(1,first.data.toList,0,0)::(M.take i).flatMap valW)) (fun _ i' _=>n - (intOf i').toNat)
 case atStart=>exact⟨0,_,_,rfl,rfl,Nat.zero_le _,by simp,HI1,xhd rfl⟩
 case round=>
  clear x0 x1 hxl
  obtain⟨i,v,ws,rfl,rfl,hi,hwl,HI,HE⟩:=hrel
  obtain⟨av,cv,hv,_⟩:=ownsRow_shape HI.out.row
  subst hv
  obtain⟨k,hk⟩:∃k,ws.length=k:=⟨_,rfl⟩
  have HK:=xhd hk
  rw [hk] at HI hwl ⊢
  clear hk
  by_cases hlt:i < n
  ·have hiL:i < M.length:=by rw [HN.out];exact hlt
   have hbw:=HQ.out.lt
   have hbl:=Nat.lt_of_lt_of_le hbw HI.out.bel.size
   obtain⟨p,y0,y1,y2,y3,y4,Y,tY,gY,y5,_⟩:=HQ.out.cells i hiL
   have yc:∀o,wr.cell? ⟨nb,o,none⟩=w.cell? ⟨nb,o,none⟩:=fun o=>HI.out.bel.cell (p:=⟨nb,o,none⟩) hbw
   rw [←yc] at y0 y1 y2 y3
   simp only [Nat.zero_add] at y0 y1 y2 y3
   obtain⟨⟨nm,most,x⟩,hx⟩:∃x,M[i]=x:=⟨_,rfl⟩
   rw [hx] at y0 y2 y4
   simp only at y0 y2 y4
   have hpw:=lt_of_block y5
   have hpl:=Nat.lt_of_lt_of_le hpw HI.out.bel.size
   have hpc:Hid (∀V,Below w.heap.size w V→V.cell? ⟨p.block,p.off,none⟩=some (.int .i64 x)):=xhd (fun V hV=>(hV.cell (p:=⟨p.block,p.off,none⟩) hpw).trans y4)
   have HEN:Hid ((1,first.data.toList,0,0)::(M.take (i+1)).flatMap valW=ws++valW (nm,most,x)):=xhd (by
    rw [HE.out, ←List.take_append_getElem hiL,hx,List.flatMap_append,List.flatMap_singleton]
    rfl)
   have j0:(0:Int)≤i:=by omega
   have j1:(i:Int) < n:=by omega
   have j2:IntKind.i64.wrap ((i:Int)+1)=(i:Int)+1:=by rw [IntKind.wrap_i64];omega
   have HBX:=xhd (heap_alloc_new wr (.cells #[.string nm, .int .i64 1, .int .i64 most, .pointer (some ⟨p.block,p.off,none⟩)] 151))
   have HBA:=xhd ((Below.refl wr.heap.size wr).alloc (Nat.le_refl _) (.cells #[.string nm, .int .i64 1, .int .i64 most, .pointer (some ⟨p.block,p.off,none⟩)] 151))
   have HIA:=xhd (HI.out.more HBA.out)
   clear hx y4 y5 yc
   by_cases hnm:nm=⟨#[]⟩
   ·have hval:valW (nm,most,x)=[(2,[],x,0)]:=by unfold valW;rw [if_pos hnm];rfl
    rw [hval] at HEN
    subst hnm
    have y4:=hpc.out _ HIA.out.bel
    clear hval
    go_wp2_with fail
    with_reducible refine (HPN.out _ _).mono ?_
    rintro r w3 ⟨rfl,hb⟩
    have HI3:=xhd (HIA.out.more hb)
    clear hb
    go_wp2_with (at_builtin;refine wpList_append_own _ rfl _ _ 50 rfl w.heap.size 95 i0 (.agg #[.int .i64 0, .string ⟨#[]⟩, .int .i64 0, .int .i64 0]) 4 40 Tryz.underlying50 hi0 hz0 hz1 hz2 rfl (by decide) _ _ _ rfl (row_below HI3.out.row ((Below.refl _ _).alloc (Nat.le_refl _) _)) ⟨_,0,none⟩ 1 1 [.int .i64 2, .string ⟨#[]⟩, .int .i64 x, .int .i64 0] rfl rfl ?c1 ?c2 ?c3 ?c4 ?c5 ?_)
    case c1=>first|exact word_new _ _ _ _ _ _|exact word_at (by simp) _ _ _ _ _
    case c2=>exact word_ones _ _ _ _
    case c3=>(have:=HK.out;unfold maxLen;omega)
    case c4=>(have:=HK.out;omega)
    case c5=>exact Nat.le_trans HI3.out.bel.size (by simp)
    intro v4 w4 hown hgrow _
    have hin:=(HI3.out.more ((Below.refl _ _).alloc (Nat.le_refl _) _)).push (x:=(2,[],x,0)) rfl hown hgrow
    have HI4:=xhd hin
    clear hown hgrow hin
    obtain⟨a4,c4,hv4,_⟩:=ownsRow_shape HI4.out.row
    subst hv4
    go_wp2
    go_roundw
    case rel=>exact⟨i+1,_,ws++[(2,[],x,0)],rfl,by go_num,by omega,by (rw [List.length_append,HK.out,List.length_singleton];omega),HI4,xhd (by rw [HEN.out])⟩
    case measure=>simp [intOf];omega
   ·have hval:valW (nm,most,x)=[(1,nm.data.toList,0,0),(2,[],x,0)]:=by unfold valW;rw [if_neg hnm];rfl
    rw [hval] at HEN
    obtain⟨hn1,hn2⟩:=name_some hnm
    obtain⟨z0,z1,z2,z3⟩:=word_cells HBX.out
    clear hval hnm
    go_wp2_with fail
    with_reducible refine (HNM.out _ _).mono ?_
    rintro r w1 ⟨rfl,hb⟩
    have HI5:=xhd (HIA.out.more hb)
    have HBB:=xhd (HBA.out.trans (hb.mono HBA.out.size))
    have HBY:=xhd ((hb.block _ (lt_of_block HBX.out)).trans HBX.out)
    have HA5:=xhd ((Below.refl w1.heap.size w1).alloc (Nat.le_refl _) (.cells #[.int .i64 1, .string nm, .int .i64 0, .int .i64 0] 95))
    clear hb z0 z1 z2 z3
    go_wp2_with (at_builtin;refine wpList_append_own _ rfl _ _ 50 rfl w.heap.size 95 i0 (.agg #[.int .i64 0, .string ⟨#[]⟩, .int .i64 0, .int .i64 0]) 4 40 Tryz.underlying50 hi0 hz0 hz1 hz2 rfl (by decide) _ _ _ rfl (row_below HI5.out.row ((Below.refl _ _).alloc (Nat.le_refl _) _)) ⟨_,0,none⟩ 1 1 [.int .i64 1, .string nm, .int .i64 0, .int .i64 0] rfl rfl ?c1 ?c2 ?c3 ?c4 ?c5 ?_)
    case c1=>first|exact word_new _ _ _ _ _ _|exact word_at (by simp) _ _ _ _ _
    case c2=>exact word_ones _ _ _ _
    case c3=>(have:=HK.out;unfold maxLen;omega)
    case c4=>(have:=HK.out;omega)
    case c5=>exact Nat.le_trans HI5.out.bel.size (by simp)
    intro v6 w6 hown hgrow _
    have hin:=(HI5.out.more ((Below.refl _ _).alloc (Nat.le_refl _) _)).push (x:=(1,nm.data.toList,0,0)) (wdC_name nm) hown hgrow
    have HI6:=xhd hin
    have hby6:=(hgrow.block _ (lt_of_block (HA5.out.block _ (lt_of_block HBY.out) |>.trans HBY.out)) (block_off (HA5.out.block _ (lt_of_block HBY.out) |>.trans HBY.out) (HI5.out.more HA5.out).row (by decide))).trans (HA5.out.block _ (lt_of_block HBY.out) |>.trans HBY.out)
    have hp6:=hpc.out _ HI6.out.bel
    clear hown hgrow hin
    obtain⟨ws6,hws6⟩:∃l,ws++[(1,nm.data.toList,0,0)]=l:=⟨_,rfl⟩
    have hl6:ws6.length=k+1:=by rw [←hws6,List.length_append,HK.out,List.length_singleton]
    have HWS6:=xhd hws6
    rw [hws6] at HI6
    obtain⟨a6,c6,hv6,_⟩:=ownsRow_shape HI6.out.row
    rw [hl6] at hv6
    subst hv6
    have HL6:=xhd hl6
    clear hws6 hl6
    obtain⟨z0,z1,z2,z3⟩:=word_cells hby6
    go_wp2_with fail
    with_reducible refine (HPN.out _ _).mono ?_
    rintro r w3 ⟨rfl,hb⟩
    have HI3:=xhd (HI6.out.more hb)
    clear hb
    go_wp2_with (at_builtin;refine wpList_append_own _ rfl _ _ 50 rfl w.heap.size 95 i0 (.agg #[.int .i64 0, .string ⟨#[]⟩, .int .i64 0, .int .i64 0]) 4 40 Tryz.underlying50 hi0 hz0 hz1 hz2 rfl (by decide) _ _ _ rfl (row_below HI3.out.row ((Below.refl _ _).alloc (Nat.le_refl _) _)) ⟨_,0,none⟩ 1 1 [.int .i64 2, .string ⟨#[]⟩, .int .i64 x, .int .i64 0] rfl rfl ?c1 ?c2 ?c3 ?c4 ?c5 ?_)
    case c1=>first|exact word_new _ _ _ _ _ _|exact word_at (by simp) _ _ _ _ _
    case c2=>exact word_ones _ _ _ _
    case c3=>(have:=HL6.out;unfold maxLen;omega)
    case c4=>(have:=HL6.out;omega)
    case c5=>exact Nat.le_trans HI3.out.bel.size (by simp)
    intro v4 w4 hown hgrow _
    have hin:=(HI3.out.more ((Below.refl _ _).alloc (Nat.le_refl _) _)).push (x:=(2,[],x,0)) rfl hown hgrow
    have HI4:=xhd hin
    clear hown hgrow hin
    obtain⟨a4,c4,hv4,_⟩:=ownsRow_shape HI4.out.row
    subst hv4
    go_wp2
    go_roundw
    case rel=>exact⟨i+1,_,ws6++[(2,[],x,0)],rfl,by go_num,by omega,by (rw [List.length_append,HL6.out,List.length_singleton];omega),HI4,xhd (by rw [HEN.out];rw [←HWS6.out];simp)⟩
    case measure=>simp [intOf];omega
  ·obtain rfl:i=n:=by omega
   have HFW:Hid (LW=ws++[(3,[59],0,0)]):=xhd (by
    rw [←HLW.out,HE.out,List.take_of_length_le (by rw [HN.out];omega)]
    rfl)
   clear hlt
   go_wp2_with fail
   with_reducible refine (HMK.out _ _).mono ?_
   rintro r w3 ⟨rfl,hb⟩
   have HI3:=xhd (HI.out.more hb)
   clear hb
   go_wp2_with (at_builtin;refine wpList_append_own _ rfl _ _ 50 rfl w.heap.size 95 i0 (.agg #[.int .i64 0, .string ⟨#[]⟩, .int .i64 0, .int .i64 0]) 4 40 Tryz.underlying50 hi0 hz0 hz1 hz2 rfl (by decide) _ _ _ rfl (row_below HI3.out.row ((Below.refl _ _).alloc (Nat.le_refl _) _)) ⟨_,0,none⟩ 1 1 [.int .i64 3, .string ⟨#[59]⟩, .int .i64 0, .int .i64 0] rfl rfl ?c1 ?c2 ?c3 ?c4 ?c5 ?_)
   case c1=>first|exact word_new _ _ _ _ _ _|exact word_at (by simp) _ _ _ _ _
   case c2=>exact word_ones _ _ _ _
   case c3=>(have:=HK.out;unfold maxLen;omega)
   case c4=>(have:=HK.out;omega)
   case c5=>exact Nat.le_trans HI3.out.bel.size (by simp)
   intro v4 w4 hown hgrow _
   have hin:=(HI3.out.more ((Below.refl _ _).alloc (Nat.le_refl _) _)).push (x:=(3,[59],0,0)) rfl hown hgrow
   have HI4:=xhd hin
   clear hown hgrow hin
   go_wp2
   go_ret
   exact⟨_,rfl,by rw [HFW.out];exact HI4.out.row,HI4.out.bel⟩
structure Pl where
 ag:Option Addr
 bg:Nat
 og:Nat
 cg:Nat
 al:Option Addr
 bl:Nat
 ol:Nat
 cl:Nat
 ap:Option Addr
 bp:Nat
 op:Nat
 cp:Nat
 aa:Option Addr
 ba:Nat
 oa:Nat
 ca:Nat
abbrev stP (s:Stp) (p:Pl):Array Value:=stC s.1 s.2.1 p.ag s.2.2.1.length p.cg p.al s.2.2.2.1.length p.cl p.ap s.2.2.2.2.length p.cp
abbrev scP (x:Scr) (p:Pl):Array Value:= #[.int .i64 x.1.1, .int .i64 x.1.2.1, .slice p.ag x.1.2.2.1.length p.cg, .slice p.al x.1.2.2.2.1.length p.cl, .slice p.ap x.1.2.2.2.2.length p.cp, .slice p.aa x.2.length p.ca]
abbrev zeroSc:Array Value:= #[.int .i64 0, .int .i64 0, .slice none 0 0, .slice none 0 0, .slice none 0 0, .slice none 0 0]
abbrev StArg (w:World) (s:Stp) (p:Pl):Prop:=SArg w s p.ag p.bg p.og p.al p.bl p.ol p.ap p.bp p.op
structure ScArg (w:World) (x:Scr) (p:Pl):Prop where
 s:StArg w x.1 p
 a:AArg w p.aa p.ba p.oa x.2
theorem ScArg.below {w w':World} {x:Scr} {p:Pl} (h:ScArg w x p) (hb:Below w.heap.size w w'):ScArg w' x p:=⟨h.s.below hb,h.a.below hb⟩
def noneSc:Scr:=(noneS,[])
abbrev nonePl:Pl:=⟨none,0,0,0,none,0,0,0,none,0,0,0,none,0,0,0⟩
theorem scarg_none (w:World):ScArg w noneSc nonePl:=⟨sarg_none w,fun h=>absurd h (by decide),fun i hi=>absurd hi (Nat.not_lt_zero _)⟩
def ParseScP (R:Scr×Int×Int) (w:World) (e:Ending) (w':World):Prop:=
 ∃p:Pl,e= .returned (.tuple #[.agg (scP R.1 p), .int .i64 R.2.1, .int .i64 R.2.2])∧ScArg w' R.1 p∧Below w.heap.size w w'
theorem parse_badSc {R:Scr×Int×Int} {x y:Int} (h:R=(noneSc,x,y)) {w w':World} (hb:Below w.heap.size w w'):ParseScP R w (.returned (.tuple #[.agg zeroSc, .int .i64 x, .int .i64 y])) w':=by
 subst h
 exact⟨nonePl,rfl,scarg_none w',hb⟩
theorem st_five6 {w:World} {B:Nat} {a b c d e f a' b' c' d' e':Value} {t:TypeId} (h:w.heap[B]?=some (.cells #[a,b,c,d,e,f] t (0,0))):
  (((((w.setCell ⟨B,0,none⟩ a').setCell ⟨B,1,none⟩ b').setCell ⟨B,2,none⟩ c').setCell ⟨B,3,none⟩ d').setCell ⟨B,4,none⟩ e').heap[B]?=some (.cells #[a',b',c',d',e',f] t (0,0)):=by
 rw [heap_setCell_same _ _ _ _ _ _ (heap_setCell_same _ _ _ _ _ _ (heap_setCell_same _ _ _ _ _ _ (heap_setCell_same _ _ _ _ _ _ (heap_setCell_same _ _ _ _ _ _ h))))]
 rfl
theorem sc_six {w:World} {B:Nat} {a b c d e f a' b' c' d' e' f':Value} {t:TypeId} (h:w.heap[B]?=some (.cells #[a,b,c,d,e,f] t (0,0))):
  ((((((w.setCell ⟨B,0,none⟩ a').setCell ⟨B,1,none⟩ b').setCell ⟨B,2,none⟩ c').setCell ⟨B,3,none⟩ d').setCell ⟨B,4,none⟩ e').setCell ⟨B,5,none⟩ f').heap[B]?=some (.cells #[a',b',c',d',e',f'] t (0,0)):=by
 rw [heap_setCell_same _ _ _ _ _ _ (st_five6 h)]
 rfl
theorem sc_kept {w:World} {B k:Nat} {a b c d e f:Value} (h:k≠B):
  ((((((w.setCell ⟨B,0,none⟩ a).setCell ⟨B,1,none⟩ b).setCell ⟨B,2,none⟩ c).setCell ⟨B,3,none⟩ d).setCell ⟨B,4,none⟩ e).setCell ⟨B,5,none⟩ f).heap[k]?=w.heap[k]?:=
 (Below.heap_setCell _ _ _ _ h).trans (st_kept h)
theorem sc_stored {w V:World} {a b c d e f:Value} (h:V.heap[w.heap.size]?=some (.cells zeroSc 29 (0,0))) (hb:Below w.heap.size w V):
  ((((((V.setCell ⟨w.heap.size,0,none⟩ a).setCell ⟨w.heap.size,1,none⟩ b).setCell ⟨w.heap.size,2,none⟩ c).setCell ⟨w.heap.size,3,none⟩ d).setCell ⟨w.heap.size,4,none⟩ e).setCell ⟨w.heap.size,5,none⟩ f).heap[w.heap.size]?=some (.cells #[a,b,c,d,e,f] 29 (0,0))∧
  Below w.heap.size w ((((((V.setCell ⟨w.heap.size,0,none⟩ a).setCell ⟨w.heap.size,1,none⟩ b).setCell ⟨w.heap.size,2,none⟩ c).setCell ⟨w.heap.size,3,none⟩ d).setCell ⟨w.heap.size,4,none⟩ e).setCell ⟨w.heap.size,5,none⟩ f):=
 ⟨sc_six h,(((((hb.setCell (Nat.le_refl _) _).setCell (Nat.le_refl _) _).setCell (Nat.le_refl _) _).setCell (Nat.le_refl _) _).setCell (Nat.le_refl _) _).setCell (Nat.le_refl _) _⟩
theorem sc_res {fn:Func} {p q r:Tmp} (hf:fn.results= #[.cell p 29, .tmp q, .tmp r]) {tmps:Array Value} {W:World} {B:Nat} {a b c d e f x y:Value} (hp:tmps.getD p undef= .pointer (some ⟨B,0,none⟩)) (hq:tmps.getD q undef=x) (hr:tmps.getD r undef=y) (h:W.heap[B]?=some (.cells #[a,b,c,d,e,f] 29 (0,0))):
  (results fn tmps).run Tryz.prog W= .ok (.tuple #[.agg #[a,b,c,d,e,f],x,y]) W:=by
 obtain⟨c0,c1,c2,c3,c4,c5⟩:=six_cells h
 rw [results_cell_tmp2 hf,hp]
 simp [loadVar,go_sem,c0,c1,c2,c3,c4,c5, ←hq, ←hr]
theorem eqacts_any (ao1 ao2:Option Addr) (b1 o1 b2 o2 c1 c2:Nat) (A L:List Ac) (w:World) (hA:AArg w ao1 b1 o1 A) (hB:AArg w ao2 b2 o2 L) (hm:A.length≤1000000) (hm2:L.length≤1000000) (he:A.length=L.length→A=L):
  Calls Tryz.prog 36 #[.slice ao1 A.length c1, .slice ao2 L.length c2] w fun e w'=>e= .returned (.bool (decide (A.length=L.length)))∧Below w.heap.size w w':=by
 by_cases hl:A.length=L.length
 ·have hAL:=he hl
  subst hAL
  rw [decide_eq_true rfl]
  have HA:=xhd hA
  have HB:=xhd hB
  obtain⟨n,hn⟩:∃n,A.length=n:=⟨_,rfl⟩
  have HN:=xhd hn
  rw [hn] at hm ⊢
  clear hA hB hn hm2 he hl
  go_enter Tryz.func36,Tryz.ntmps36
  go_wp2
  go_loopw [13] (fun i' wr=>∃i d:Nat,i≤n∧i'= .int .i64 i∧wr=w.drewN d) (fun i' _=>n - (intOf i').toNat)
  case atStart=>exact⟨0,0,Nat.zero_le _,rfl,rfl⟩
  case round=>
   obtain⟨i,d,hi,rfl,rfl⟩:=hrel
   by_cases hlt:i < n
   ·have h1:i < A.length:=by rw [HN.out];exact hlt
    obtain⟨rfl,hb1⟩:=HA.out.at_ (by omega)
    obtain⟨rfl,hb2⟩:=HB.out.at_ (by omega)
    obtain⟨x0,x1,x2,x3,x4⟩:=HA.out.cells i h1
    obtain⟨y0,y1,y2,y3,y4⟩:=HB.out.cells i h1
    obtain⟨⟨k,z0,z1,z2,z3⟩,hz⟩:∃x,A[i]=x:=⟨_,rfl⟩
    simp only [hz] at x0 x1 x2 x3 x4 y0 y1 y2 y3 y4
    have hq:=fun W=>neq_act_self k z0 z1 z2 z3 W
    clear hz
    go_wp2_with fail
    go_quiet (fail)
    go_wp2
    go_roundw
    case rel=>exact⟨i+1,_,by omega,by go_num,rfl⟩
    case measure=>simp [intOf];omega
   ·go_wp2
    go_ret
    exact⟨rfl,below_drewN (Below.refl _ _) d⟩
 ·rw [decide_eq_false hl]
  have hne:((A.length:Int) != (L.length:Int))=true:=by simpa using fun h:(A.length:Int)=L.length=>hl (by omega)
  clear he hl hA hB
  go_enter Tryz.func36,Tryz.ntmps36
  go_wp2
  go_ret
  exact⟨rfl,Below.refl _ _⟩
theorem scsame_any (s:Stp) (A L:List Ac) (p q:Pl) (w:World) (h1:ScArg w (s,A) p) (h2:ScArg w (s,L) q) (hz:SSize s) (hm:A.length≤100000) (hm2:L.length≤100000) (he:A.length=L.length→A=L):
  Calls Tryz.prog 13 #[.agg (scP (s,A) p), .agg (scP (s,L) q)] w fun e w'=>e= .returned (.bool (decide (A.length=L.length)))∧Below w.heap.size w w':=by
 have hbx:Below w.heap.size w ((w.alloc (.cells (scP (s,A) p) 29)).alloc (.cells (scP (s,L) q) 29)):=((Below.refl _ w).alloc (Nat.le_refl _) _).alloc (by simp) _
 have HX2:=xhd (heap_alloc_new (w.alloc (.cells (scP (s,A) p) 29)) (.cells (scP (s,L) q) 29))
 have HX1:=xhd ((Below.heap_alloc (w.alloc (.cells (scP (s,A) p) 29)) (.cells (scP (s,L) q) 29) w.heap.size (by simp)).trans (heap_alloc_new w (.cells (scP (s,A) p) 29)))
 have hs:=pssame_any s p.ag p.bg p.og p.cg p.al p.bl p.ol p.cl p.ap p.bp p.op p.cp s q.ag q.bg q.og q.cg q.al q.bl q.ol q.cl q.ap q.bp q.op q.cp _ (h1.s.below hbx) (h2.s.below hbx) hz hz
 rw [eqS_self] at hs
 have ha:=fun W (hW:Below w.heap.size w W)=>eqacts_any p.aa q.aa p.ba p.oa q.ba q.oa p.ca q.ca A L W (h1.a.below hW) (h2.a.below hW) (by omega) (by omega) he
 obtain⟨c,g,gs,ls,ps⟩:=s
 obtain⟨ag,bg,og,cg,al,bl,ol,cl,ap,bp,op,cp,aa,ba,oa,ca⟩:=p
 obtain⟨ag',bg',og',cg',al',bl',ol',cl',ap',bp',op',cp',aa',ba',oa',ca'⟩:=q
 obtain⟨ng,hng⟩:∃n,gs.length=n:=⟨_,rfl⟩
 obtain⟨nl,hnl⟩:∃n,ls.length=n:=⟨_,rfl⟩
 obtain⟨np,hnp⟩:∃n,ps.length=n:=⟨_,rfl⟩
 obtain⟨n1,hn1⟩:∃n,A.length=n:=⟨_,rfl⟩
 obtain⟨n2,hn2⟩:∃n,L.length=n:=⟨_,rfl⟩
 obtain⟨r,hr⟩:∃r,decide (n1=n2)=r:=⟨_,rfl⟩
 simp only [scP,hng,hnl,hnp,hn1,hn2,hr] at hs ha HX1 HX2 hbx ⊢
 have HS:=xhd hs
 have HA:=xhd ha
 have HBX:=xhd hbx
 have HW:Hid (∃W,(w.alloc (.cells #[.int .i64 c, .int .i64 g, .slice ag ng cg, .slice al nl cl, .slice ap np cp, .slice aa n1 ca] 29)).alloc (.cells #[.int .i64 c, .int .i64 g, .slice ag' ng cg', .slice al' nl cl', .slice ap' np cp', .slice aa' n2 ca'] 29)=W):=⟨_,rfl⟩
 have HK:Hid (∃K,(w.alloc (.cells #[.int .i64 c, .int .i64 g, .slice ag ng cg, .slice al nl cl, .slice ap np cp, .slice aa n1 ca] 29)).heap.size=K):=⟨_,rfl⟩
 clear hs ha hbx hng hnl hnp hn1 hn2 hr h1 h2 hz hm hm2 he
 go_enter Tryz.func13,Tryz.ntmps13
 go_wp2_with fail
 with_reducible refine HS.out.mono ?_
 rintro e w1 ⟨rfl,hb⟩
 have HB1:=xhd (HBX.out.trans (hb.mono HBX.out.size))
 obtain⟨x0,x1,x2,x3,x4,x5⟩:=six_cells ((hb.block _ (lt_of_block HX1.out)).trans HX1.out)
 obtain⟨y0,y1,y2,y3,y4,y5⟩:=six_cells ((hb.block _ (lt_of_block HX2.out)).trans HX2.out)
 rw [World.size_alloc] at y5
 clear hb
 go_wp2_with fail
 with_reducible refine (HA.out _ HB1.out).mono ?_
 rintro e w2 ⟨rfl,hb⟩
 have HB2:=xhd (HB1.out.trans (hb.mono HB1.out.size))
 clear hb x0 x1 x2 x3 x4 x5 y0 y1 y2 y3 y4 y5
 go_wp2
 go_ret
 exact⟨rfl,HB2.out⟩
theorem rscsame_any (s:Stp) (A:List Ac) (p q:Pl) (w:World) (h1:ScArg w (s,A) p) (h2:ScArg w (s,A) q) (hz:SSize s) (hm:A.length≤100000):
  Calls Tryz.prog 12 #[.agg (scP (s,A) p), .agg (scP (s,A) q)] w fun e w'=>e= .returned (.bool true)∧Below w.heap.size w w':=by
 have hbx:Below w.heap.size w ((w.alloc (.cells (scP (s,A) p) 29)).alloc (.cells (scP (s,A) q) 29)):=((Below.refl _ w).alloc (Nat.le_refl _) _).alloc (by simp) _
 have HX2:=xhd (heap_alloc_new (w.alloc (.cells (scP (s,A) p) 29)) (.cells (scP (s,A) q) 29))
 have HX1:=xhd ((Below.heap_alloc (w.alloc (.cells (scP (s,A) p) 29)) (.cells (scP (s,A) q) 29) w.heap.size (by simp)).trans (heap_alloc_new w (.cells (scP (s,A) p) 29)))
 have hs:=rssame_any s p.ag p.bg p.og p.cg p.al p.bl p.ol p.cl p.ap p.bp p.op p.cp s q.ag q.bg q.og q.cg q.al q.bl q.ol q.cl q.ap q.bp q.op q.cp _ (h1.s.below hbx) (h2.s.below hbx) hz hz
 rw [eqS_self] at hs
 have ha:=fun W (hW:Below w.heap.size w W)=>rasame_any p.aa q.aa p.ba p.oa q.ba q.oa p.ca q.ca A W (h1.a.below hW) (h2.a.below hW) (by omega)
 obtain⟨c,g,gs,ls,ps⟩:=s
 obtain⟨ag,bg,og,cg,al,bl,ol,cl,ap,bp,op,cp,aa,ba,oa,ca⟩:=p
 obtain⟨ag',bg',og',cg',al',bl',ol',cl',ap',bp',op',cp',aa',ba',oa',ca'⟩:=q
 obtain⟨ng,hng⟩:∃n,gs.length=n:=⟨_,rfl⟩
 obtain⟨nl,hnl⟩:∃n,ls.length=n:=⟨_,rfl⟩
 obtain⟨np,hnp⟩:∃n,ps.length=n:=⟨_,rfl⟩
 obtain⟨n1,hn1⟩:∃n,A.length=n:=⟨_,rfl⟩
 simp only [scP,hng,hnl,hnp,hn1] at hs ha HX1 HX2 hbx ⊢
 have HS:=xhd hs
 have HA:=xhd ha
 have HBX:=xhd hbx
 clear hs ha hbx hng hnl hnp hn1 h1 h2 hz hm
 go_enter Tryz.func12,Tryz.ntmps12
 go_wp2_with fail
 with_reducible refine HS.out.mono ?_
 rintro e w1 ⟨rfl,hb⟩
 have HB1:=xhd (HBX.out.trans (hb.mono HBX.out.size))
 obtain⟨x0,x1,x2,x3,x4,x5⟩:=six_cells ((hb.block _ (lt_of_block HX1.out)).trans HX1.out)
 obtain⟨y0,y1,y2,y3,y4,y5⟩:=six_cells ((hb.block _ (lt_of_block HX2.out)).trans HX2.out)
 rw [World.size_alloc] at y5
 clear hb
 go_wp2_with fail
 with_reducible refine (HA.out _ HB1.out).mono ?_
 rintro e w2 ⟨rfl,q,hq⟩
 have HB2:Hid (Below w.heap.size w w2):=xhd (HB1.out.trans (by rw [hq];exact (below_drewN (Below.refl _ _) q).mono HB1.out.size))
 clear hq x0 x1 x2 x3 x4 x5 y0 y1 y2 y3 y4 y5
 go_wp2
 go_ret
 exact⟨rfl,HB2.out⟩
end Go.Proofs.YtbnhnnccioljhaaGreatDoor
