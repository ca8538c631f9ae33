/-
  OUR OWN TEXT. Sp6, Nd1, Pg5, Pg3, Ic3b, one behind the other.
-/
import Derived.Test.YtmmdlgjmplddiaaGreatKbg
import Derived.Test.YtmmdlgjmplddiaaGreatKaw
import Derived.Test.YtmmdlgjmplddiaaGreatKbh
import Derived.Test.YtmmdlgjmplddiaaGreatKas
import Derived.Test.YtmmdlgjmplddiaaGreatHwm
import Derived.Test.YtmmdlgjmplddiaaGreatKay
import Derived.Deep.DrawnRows
import Derived.Test.YtmmdlgjmplddiaaGreatIc3m
namespace Go.Proofs.YtmmdlgjmplddiaaGreat
open Go.RowKit
attribute [local go_sem ↓] Go.wp_at_zero Go.wp_at_succ
def fidx (tag:Int):List F→Option Nat
 | []=>none
 | f :: r=>if f.tag=tag then some 0 else (fidx tag r).map (·+1)
set_option maxHeartbeats 400000 in
theorem zkM (a:Option Addr) (c:Nat) (fs:List F) (nx cp:Int) (sg:Bool) (w:World) (hv:zaH w a fs) (hl:fs.length≤1048576) (hs:∀ f∈fs,f.slots.length≤1048576) :
  Calls Tryz.prog 89 #[.agg #[.slice a fs.length c,.int .i64 nx,.int .i64 cp,.bool sg]] w fun e w'=>
   (∃ a' c' xs,e=.returned (.agg #[.slice a' fs.length c',.int .i64 nx,.int .i64 cp,.bool sg])∧OFs w' w.heap.size (.slice a' fs.length c') fs.length fs xs)∧Below w.heap.size w w':=by
 have B2:∀ o o',Below w.heap.size w ((w.alloc o).alloc o'):=fun o o'=>((Below.refl _ _).alloc (Nat.le_refl _) _).alloc (by simp) _
 go_enter Tryz.func89,Tryz.ntmps89
 go_wp2
 go_region_held3 (fun w'=>w'.cell? ⟨w.heap.size,0,none⟩=some (.slice a fs.length c)∧w'.cell? ⟨w.heap.size,1,none⟩=some (.int .i64 nx)∧w'.cell? ⟨w.heap.size,2,none⟩=some (.int .i64 cp)∧w'.cell? ⟨w.heap.size,3,none⟩=some (.bool sg)) ((go_split_ands;refine ⟨?_,?_,?_,?_⟩ <;> first | (simp [*,go_sem];done) | exact zaa hb1 (by simp [*,go_sem]) | (simp [World.cell?_setCell_other];exact zaa hb1 (by simp [*,go_sem]))))
  (first | (go_at_call 125;refine (zje a c fs _ (hv.below ?_) hl hs).mono ?_;exact (B2 _ _).drew;rintro e w1 ⟨⟨a1,c1,xs,rfl,ho1⟩,hb1⟩;obtain ⟨hc,hf⟩:=bcell hb1))
 go_wp2
 refine bodyPost_ret (v:=.agg #[.slice a1 fs.length c1,.int .i64 nx,.int .i64 cp,.bool sg]) (by simp [results,Tryz.results89,go_sem,hc]) rfl ⟨⟨a1,c1,xs,rfl,?_⟩,?_⟩
 ·exact ((((ho1.set (by simp) _).set (by simp) _).set (by simp) _).set (by simp) _).lower (by simp;omega)
 ·have hB:Below w.heap.size w w1:=(B2 _ _).drew.trans (hb1.mono (by simp;omega))
  exact (((hB.setCell (by simp) _).setCell (by simp) _).setCell (by simp) _).setCell (by simp) _
structure RFs (Z:Nat→Prop) (w0 w:World) (v:Value) (n:Nat) (fs:List F) (xs:List Value):Prop where
 num:n=fs.length
 len:xs.length=fs.length
 own:w.ownsRow w0.heap.size 42 3 v n (frows fs xs)
 each:∀ (i:Nat) (f:F) (x:Value),fs[i]?=some f→xs[i]?=some x→∃ a c,x=.slice a f.slots.length c∧zbV Z w0 a f.slots
theorem RFs.at {Z:Nat→Prop}{w0 w:World}{a:Option Addr}{n c:Nat}{fs:List F}{xs:List Value} (h:RFs Z w0 w (.slice a n c) n fs xs) (hb:Below w0.heap.size w0 w):zcc (fun b=>Z b∨(w0.heap.size≤b∧b<w.heap.size)) w a fs:=by
 intro i f hf
 have hi:i<fs.length:=(List.getElem?_eq_some_iff.1 hf).1
 have hx:xs[i]?=some (xs[i]'(by rw [h.len];exact hi)):=List.getElem?_eq_getElem _
 obtain ⟨a',c',e,ho⟩:=h.each i f _ hf hx
 have key:=fun j (hj:j<3)=>zdZ fs xs h.len i f _ hf hx j hj
 obtain ⟨g,rfl,_,h0,_⟩:=zam h.own ((key 0 (by omega)).trans rfl)
 obtain ⟨g1,he1,_,h1,_⟩:=zam h.own ((key 1 (by omega)).trans rfl)
 obtain ⟨g2,he2,_,h2,_⟩:=zam h.own ((key 2 (by omega)).trans rfl)
 cases he1
 cases he2
 rw [e] at h2
 exact ⟨g,0,.inr (h.own.lt g rfl),rfl,by simpa using h0,by simpa using h1,a',c',by simpa using h2,(ho.kept (fun b _ hlt=>hb.block b hlt)).mono (fun b hz=>.inl hz)⟩
end Go.Proofs.YtmmdlgjmplddiaaGreat
namespace Go.Proofs.YtmmdlgjmplddiaaGreat
open Go.RowKit
theorem zbt {p:Prop} (h:p):Hid p:=h
abbrev AlX:=Al × Value
def AlP (w:World) (base:Nat) (x:AlX):Prop:=(∃ a c,x.2=.slice a x.1.tests.length c)∧w.ownsRow base 111 6 x.2 x.1.tests.length (x.1.tests.flatMap zat)
theorem AlP.bel {w w':World}{base:Nat}{x:AlX} (h:AlP w base x) (hb:Below w.heap.size w w'):AlP w' base x:=⟨h.1,zag h.2 hb⟩
theorem cells3N {w:World}{b:Nat}{ty:TypeId}{x0 x1 x2:Value} (h:w.heap[b]?=some (.cells #[x0,x1,x2] ty (0,0))):w.cell? ⟨b,0,none⟩=some x0∧w.cell? ⟨b,1,none⟩=some x1∧w.cell? ⟨b,2,none⟩=some x2:=by
 refine ⟨?_,?_,?_⟩ <;> simp [World.cell?,h]
end Go.Proofs.YtmmdlgjmplddiaaGreat
namespace Go.Proofs.YtmmdlgjmplddiaaGreat
open Go.RowKit
attribute [local go_sem ↓] Go.wp_at_zero Go.wp_at_succ
def jtOf (vs:List Vr) (ts:List Tm) (i:Nat) (t:Tm):Option Jt:=
 match zaT vs t.var with
 | none=>none
 | some v=>(match earlier ts i t.var with | none=>some ⟨i,tmOp t,v.fact,v.slot⟩ | some _=>none)
def zaz (vs:List Vr) (ts:List Tm):Nat→List Jt
 | 0=>[]
 | i+1=>zaz vs ts i ++ (match ts[i]? with | none=>[] | some t=>(jtOf vs ts i t).toList)
theorem zhS {vs:List Vr}{ts:List Tm}{i:Nat}{t:Tm} (h:ts[i]?=some t):zaz vs ts (i+1)=zaz vs ts i ++ (jtOf vs ts i t).toList:=by simp [zaz,h]
theorem zdI (vs:List Vr) (ts:List Tm):∀ i,(zaz vs ts i).length≤i
 | 0=>Nat.le_refl _
 | i+1=>by
  have h1:=zdI vs ts i
  simp only [zaz,List.length_append]
  cases ts[i]? with
  | none=>simp;omega
  | some t=>
   cases h:jtOf vs ts i t <;> simp [h] <;> omega
theorem zpl:(Tryz.prog.info? 182).map (fun i=>(i.zero,i.size,i.bytes))=some (some (.agg #[.int .i64 0,.int .i64 0,.int .i64 0,.int .i64 0]),4,32):=by kernel_rfl
theorem zo3 (t:Jt):∀ u∈zcr t,u.oneCell'=true:=by
 intro u hu
 simp [zcr] at hu
 rcases hu with rfl | rfl | rfl | rfl <;> rfl
theorem zaw {w w':World}{ob:Option Nat}{b o:Nat} (h:w.grownBy w' ob) (hne:ob≠some b) (hl:b<w.heap.size):w'.cell? ⟨b,o,none⟩=w.cell? ⟨b,o,none⟩:=by
 unfold World.cell?
 rw [h.block b hl (fun e=>hne e.symm)]
theorem cells6P {w:World}{b:Nat}{ty:TypeId}{x0 x1 x2 x3 x4 x5:Value} (h:w.heap[b]?=some (.cells #[x0,x1,x2,x3,x4,x5] ty (0,0))):w.cell? ⟨b,0,none⟩=some x0∧w.cell? ⟨b,1,none⟩=some x1∧w.cell? ⟨b,2,none⟩=some x2∧w.cell? ⟨b,3,none⟩=some x3∧w.cell? ⟨b,4,none⟩=some x4∧w.cell? ⟨b,5,none⟩=some x5:=by
 refine ⟨?_,?_,?_,?_,?_,?_⟩ <;> simp [World.cell?,h]
theorem cells2P {w:World}{b:Nat}{ty:TypeId}{x0 x1:Value} (h:w.heap[b]?=some (.cells #[x0,x1] ty (0,0))):w.cell? ⟨b,0,none⟩=some x0∧w.cell? ⟨b,1,none⟩=some x1:=by
 refine ⟨?_,?_⟩ <;> simp [World.cell?,h]
set_option maxRecDepth 100000 in
set_option maxHeartbeats 12800000 in
theorem zhp (pb:Nat) (p:Pt) (a_t:Option Addr) (c_t:Nat) (va:Option Addr) (vc:Nat) (vs:List Vr) {q:Option Nat} (w:World) (hp:w.cell? ⟨pb,1,none⟩=some (.slice va vs.length vc)) (hv:zfG w va vs) (h_t:zcl q w a_t p.terms) (hct:p.terms.length≤c_t) (hl:p.terms.length≤1048576) (hvl:vs.length≤1048576) :
  Calls Tryz.prog 92 #[.pointer (some ⟨pb,0,none⟩),.agg #[.bool p.neg,.string p.cls,.slice a_t p.terms.length c_t]] w fun e w'=>(∃ a c,e=.returned (.slice a (zaz vs p.terms p.terms.length).length c)∧w'.ownsRow w.heap.size 182 4 (.slice a (zaz vs p.terms p.terms.length).length c) (zaz vs p.terms p.terms.length).length ((zaz vs p.terms p.terms.length).flatMap zcr))∧Below w.heap.size w w':=by
 have HV:=hidP hv
 have HT:=hidP h_t
 have HPC:=hidP hp
 clear hv h_t hp
 go_enter Tryz.func92,Tryz.ntmps92
 go_upto_region 1 with fail
 refine zaj ?_
 intro w0 hW0 hq0
 obtain ⟨b0,b1,b2⟩:=cells3P hq0
 have H0:=hidP hW0
 have hs0:=hW0.size
 have hl0:w.heap.size<w0.heap.size:=zab hq0
 clear hW0 hq0
 go_wp2_with fail
 go_loopw [13,5] (fun iv tv wr=>∃ (k:Nat) (a:Option Addr) (c:Nat),iv=.int .i64 (k:Int)∧k≤p.terms.length∧tv=.slice a (zaz vs p.terms k).length c∧wr.ownsRow w0.heap.size 182 4 (.slice a (zaz vs p.terms k).length c) (zaz vs p.terms k).length ((zaz vs p.terms k).flatMap zcr)∧Below w0.heap.size w0 wr) (fun iv _ _=>p.terms.length - (intOf iv).toNat)
 case atStart=>exact ⟨0,none,0,rfl,Nat.zero_le _,rfl,World.ownsRow_nil _ _ _ _,Below.refl _ _⟩
 case round=>
  obtain ⟨k,a,c,rfl,hkl,rfl,hrow,hb⟩:=hrel
  have ROW:=hidP hrow
  have HBB:=hidP hb
  have HBW:=hidP (H0.out.trans (hb.mono H0.out.size))
  have hsr:=hb.size
  have hjl:=zdI vs p.terms k
  clear hrow hb
  by_cases hk:k<p.terms.length
  ·obtain ⟨t,ht⟩:∃ t,p.terms[k]?=some t:=⟨p.terms[k],by simp [hk]⟩
   obtain ⟨mb,mo,rfl,_,c0,c1,c2,c3,c4,c5⟩:=(HT.out.below HBW.out).get ht
   have HST:=hidP (zhS (vs:=vs) ht)
   have HTK:=hidP ht
   have p0:=zaa HBB.out b0
   have p1:=zaa HBB.out b1
   have p2:=zaa HBB.out b2
   have z0:(0:Int)≤(k:Int):=by omega
   have z1:(k:Int)<(p.terms.length:Int):=by omega
   clear ht
   go_upto_region 5 with fail
   refine zaj ?_
   intro w2 hW2 hq2
   obtain ⟨tb,htb⟩:∃ tb,tb=wr.heap.size:=⟨_,rfl⟩
   rw [← htb] at hq2 ⊢
   obtain ⟨d0,d1,d2,d3,d4,d5⟩:=cells6P hq2
   have R2:=hidP (zag ROW.out hW2)
   have D2:=hidP (HBB.out.trans (hW2.mono HBB.out.size))
   have W2:=hidP (HBW.out.trans (hW2.mono HBW.out.size))
   have s0:=zaa hW2 p0
   have s1:=zaa hW2 p1
   have s2:=zaa hW2 p2
   have hs2:=hW2.size
   have hl2:tb<w2.heap.size:=zab hq2
   have HNT:=hidP (fun g (hg:(Value.slice a (zaz vs p.terms k).length c).ownBlock=some g)=>(show g<tb by have:=(ROW.out.lt g hg).2;omega))
   have HWH:=hidP (zik pb t.var va vc vs w2 (zaa W2.out HPC.out) (HV.out.below W2.out) hvl)
   have hl2':w0.heap.size≤tb:=by omega
   clear hW2 hq2 c0 c1 c2 c3 c4 c5 p0 p1 p2 ROW HBB HBW htb
   cases hlk:zaT vs t.var with
   | none=>
    have HN:=hidP (show zaz vs p.terms (k+1)=zaz vs p.terms k by rw [HST.out];simp [jtOf,hlk])
    rw [hlk] at HWH
    unfold whV at HWH
    clear hlk
    go_wp2_with fail
    refine HWH.out.mono ?_
    rintro e w3 ⟨rfl,hb3⟩
    have B3:=hidP hb3
    clear hb3 HWH
    go_upto_region 6 with fail
    refine zaj ?_
    intro w4 hW4 hq4
    have R4:=hidP (zag (zag R2.out B3.out) hW4)
    have D4:=hidP ((D2.out.trans (B3.out.mono D2.out.size)).trans (hW4.mono (D2.out.trans (B3.out.mono D2.out.size)).size))
    clear hW4 hq4
    go_wp2_with fail
    go_roundw
    case rel=>exact ⟨k+1,a,c,by go_num,by omega,by rw [HN.out],by rw [HN.out];exact R4.out,D4.out⟩
    case measure=>(simp [intOf];omega)
   | some v=>
    rw [hlk] at HWH
    unfold whV at HWH
    go_wp2_with fail
    refine HWH.out.mono ?_
    rintro e w3 ⟨rfl,hb3⟩
    have B3:=hidP hb3
    have R3:=hidP (zag R2.out hb3)
    have D3:=hidP (D2.out.trans (hb3.mono D2.out.size))
    have W3:=hidP (W2.out.trans (hb3.mono W2.out.size))
    have f0:=zaa hb3 d0
    have f1:=zaa hb3 d1
    have f2:=zaa hb3 d2
    have f3:=zaa hb3 d3
    have f4:=zaa hb3 d4
    have f5:=zaa hb3 d5
    have u0:=zaa hb3 s0
    have u1:=zaa hb3 s1
    have u2:=zaa hb3 s2
    have hs3:=hb3.size
    clear hb3 HWH d0 d1 d2 d3 d4 d5 s0 s1 s2 R2 D2 W2 B3
    go_upto_region 6 with fail
    refine zaj ?_
    intro w4 hW4 hq4
    obtain ⟨qb,hqb⟩:∃ qb,qb=w3.heap.size:=⟨_,rfl⟩
    rw [← hqb] at hq4 ⊢
    obtain ⟨v0,v1⟩:=cells2P hq4
    have R4:=hidP (zag R3.out hW4)
    have D4:=hidP (D3.out.trans (hW4.mono D3.out.size))
    have W4:=hidP (W3.out.trans (hW4.mono W3.out.size))
    have g0:=zaa hW4 f0
    have g1:=zaa hW4 f1
    have g2:=zaa hW4 f2
    have g3:=zaa hW4 f3
    have g4:=zaa hW4 f4
    have g5:=zaa hW4 f5
    have n0:=zaa hW4 u0
    have n1:=zaa hW4 u1
    have n2:=zaa hW4 u2
    have hs4:=hW4.size
    have hl4:qb<w4.heap.size:=zab hq4
    have HBD:=hidP (zis p _ c_t k t w4 (HT.out.below W4.out) HTK.out hl hct)
    have htq:tb<qb:=by omega
    clear hqb hW4 hq4 f0 f1 f2 f3 f4 f5 u0 u1 u2 R3 D3 W3
    cases hea:earlier p.terms k t.var with
    | some e0=>
     have HN:=hidP (show zaz vs p.terms (k+1)=zaz vs p.terms k by rw [HST.out];simp [jtOf,hlk,hea])
     rw [hea] at HBD
     simp only [atI] at HBD
     have e01:((e0:Int) == -1)=false:=by simp
     clear hlk hea
     go_wp2_with fail
     refine HBD.out.mono ?_
     rintro e w5 ⟨rfl,hb5⟩
     have R5:=hidP (zag R4.out hb5)
     have D5:=hidP (D4.out.trans (hb5.mono D4.out.size))
     clear hb5 HBD
     go_wp2_with fail
     go_roundw
     case rel=>exact ⟨k+1,a,c,by go_num,by omega,by rw [HN.out],by rw [HN.out];exact R5.out,D5.out⟩
     case measure=>(simp [intOf];omega)
    | none=>
     have HN:=hidP (show zaz vs p.terms (k+1)=zaz vs p.terms k ++ [⟨k,tmOp t,v.fact,v.slot⟩] by rw [HST.out];simp [jtOf,hlk,hea])
     rw [hea] at HBD
     simp only [atI] at HBD
     clear hlk hea
     go_wp2_with fail
     refine HBD.out.mono ?_
     rintro e w5 ⟨rfl,hb5⟩
     have R5:=hidP (zag R4.out hb5)
     have D5:=hidP (D4.out.trans (hb5.mono D4.out.size))
     have x0:=zaa hb5 g0
     have x1:=zaa hb5 g1
     have x2:=zaa hb5 g2
     have x3:=zaa hb5 g3
     have x4:=zaa hb5 g4
     have x5:=zaa hb5 g5
     have y0:=zaa hb5 v0
     have y1:=zaa hb5 v1
     have hs5:=hb5.size
     have hneT:(Value.slice a (zaz vs p.terms k).length c).ownBlock≠some tb:=fun e=>by have:=HNT.out _ e;omega
     have hneQ:(Value.slice a (zaz vs p.terms k).length c).ownBlock≠some qb:=fun e=>by have:=HNT.out _ e;omega
     have HOP:=hidP (fun w'=>zeC t w')
     clear hb5 HBD g0 g1 g2 g3 g4 g5 v0 v1 n0 n1 n2 R4 D4 W4
     go_wp2_with fail
     refine wp_region_noPanic ?_
     refine wp_region_held_drew (S:=(fun w'=>w'.cell? ⟨tb,0,none⟩=some (.int .i64 t.kind)∧w'.cell? ⟨tb,1,none⟩=some (.int .i64 t.op)∧w'.cell? ⟨tb,2,none⟩=some (.string t.var)∧w'.cell? ⟨tb,3,none⟩=some (.int .i64 t.val.kind)∧w'.cell? ⟨tb,4,none⟩=some (.int .i64 t.val.num)∧w'.cell? ⟨tb,5,none⟩=some (.string t.val.sym)∧w'.cell? ⟨qb,0,none⟩=some (.int .i64 (v.fact:Int))∧w'.cell? ⟨qb,1,none⟩=some (.int .i64 (v.slot:Int)))) (by kernel_rfl) ?_ (fun hHeld=>?_)
     ·(try dsimp only)
      (go_split_ands;refine ⟨?_,?_,?_,?_,?_,?_,?_,?_⟩ <;> first | (simp [*];done))
     refine tk 0 hHeld ?_
     (try simp only [pA,pZ,pS])
     refine tk 1 hHeld ?_
     (try simp only [pA,pZ,pS])
     refine tk 2 hHeld ?_
     (try simp only [pA,pZ,pS])
     refine tk 4 hHeld ?_
     (try simp only [pA,pZ,pS])
     refine wpAnyH_ready (rs:=[3]) (by kernel_rfl) (by simp) ?_
     refine AllReadyH.cons (o:=?o1) ?ho1 (fun K hK=>?step1) AllReadyH.nil
     case ho1=>(simp only [List.getElem?_toArray,List.getElem?_cons_succ,List.getElem?_cons_zero];rfl)
     go_simp
     (go_at_call 105;refine (HOP.out _).mono ?_;rintro e' w6 ⟨rfl,hb6⟩)
     (try go_wp2_with fail)
     refine hK.out _ _ ?hS2 (fun hHeld'=>?rest2)
     case hS2=>((try dsimp only);(go_split_ands;refine ⟨?_,?_,?_,?_,?_,?_,?_,?_⟩ <;> first | exact zaa hb6 (by assumption)))
     clear hK K
     (first | simp only [pA,pZ,pS] | simp only [pN] | skip)
     clear hHeld
     have hHeld:=hHeld'
     clear hHeld'
     have B6:=hidP (show Below w5.heap.size w5 w6 from (Below.refl w5.heap.size w5).drew.trans (hb6.mono (by simp)))
     have R6:=hidP (zag R5.out B6.out)
     have D6:=hidP (D5.out.trans (B6.out.mono D5.out.size))
     have hs6:=B6.out.size
     have HW6:=hidP (fun o'=>(Below.refl _ _).alloc (Nat.le_refl _) o':∀ o',Below w6.heap.size w6 (w6.alloc o'))
     refine tk 5 hHeld ?_
     (try simp only [pA,pZ,pS])
     refine wpAnyH_ready (rs:=[6]) (by kernel_rfl) (by simp) ?_
     refine AllReadyH.cons (o:=?o3) ?ho3 (fun K hK=>?step3) AllReadyH.nil
     case ho3=>(simp only [List.getElem?_toArray,List.getElem?_cons_succ,List.getElem?_cons_zero];rfl)
     go_simp
     refine hK.out _ _ ?hS4 (fun hHeld'=>?rest4)
     case hS4=>((try dsimp only);(go_split_ands;refine ⟨?_,?_,?_,?_,?_,?_,?_,?_⟩ <;> first | (simp [go_sem, *];done) | exact zaa ((Below.refl _ _).alloc (Nat.le_refl _) _) (by assumption)))
     clear hK K
     (first | simp only [pA,pZ,pS] | simp only [pN] | skip)
     clear hHeld
     have hHeld:=hHeld'
     clear hHeld'
     refine wpAnyH_ready (rs:=[7]) (by kernel_rfl) (by simp) ?_
     refine AllReadyH.cons (o:=?o5) ?ho5 (fun K hK=>?step5) AllReadyH.nil
     case ho5=>(simp only [List.getElem?_toArray,List.getElem?_cons_succ,List.getElem?_cons_zero];rfl)
     (refine zao (by rfl) (.tmp 32) (.tmp 38) 138 (by rfl) w0.heap.size 182 _ 4 32 Tryz.underlying138 zpl (by rfl) (by omega) _ (zaz vs p.terms k).length _ (by rfl) (zag R6.out (HW6.out _)) (some ⟨_,0,none⟩) 1 1 (by rfl) (zcr ⟨k,tmOp t,v.fact,v.slot⟩) (by rfl) (fun e=>by cases e) (zav _ _ _ _ (by simp)) (zo3 _) (by unfold maxLen;omega) (by omega) (by simp;omega) ?_;intro a8 c8 w8 ho8 hg8 hl8)
     refine hK.out _ _ ?hS6 (fun hHeld'=>?rest6)
     case hS6=>((try dsimp only);(go_split_ands;refine ⟨?_,?_,?_,?_,?_,?_,?_,?_⟩ <;> first | exact (zaw hg8.out hneT (by simp;omega)).trans (by assumption) | exact (zaw hg8.out hneQ (by simp;omega)).trans (by assumption)))
     clear hK K
     (first | simp only [pA,pZ,pS] | simp only [pN] | skip)
     clear hHeld
     have hHeld:=hHeld'
     clear hHeld'
     refine tk 8 hHeld ?_
     (try simp only [pA,pZ,pS])
     refine wpAnyH_done (by kernel_rfl) ?_ _
     refine NoPanic.normal ?_
     have R8:=hidP (show w8.ownsRow w0.heap.size 182 4 (.slice a8 (zaz vs p.terms (k+1)).length c8) (zaz vs p.terms (k+1)).length ((zaz vs p.terms (k+1)).flatMap zcr) by have:=ho8.out;rw [HN.out];simpa using this)
     have D8:=hidP ((D6.out.trans ((HW6.out _).mono D6.out.size)).grown hg8.out (by simp;omega) (fun g hg=>(R6.out.lt g hg).1))
     have HLN:=hidP (show (zaz vs p.terms (k+1)).length=(zaz vs p.terms k).length+1 by rw [HN.out];simp)
     clear ho8 hg8 hl8
     go_wp2_with fail
     go_roundw
     case rel=>exact ⟨k+1,a8,c8,by go_num,by omega,by rw [HLN.out],R8.out,D8.out⟩
     case measure=>(simp [intOf];omega)
  ·have hke:k=p.terms.length:=by omega
   subst hke
   have hy:¬ (p.terms.length:Int)<(p.terms.length:Int):=by omega
   go_wp2_with fail
   go_ret
   exact ⟨⟨a,c,rfl,zan ROW.out (by omega)⟩,HBW.out⟩
end Go.Proofs.YtmmdlgjmplddiaaGreat
namespace Go.Proofs.YtmmdlgjmplddiaaGreat
open Go.RowKit
attribute [local go_sem ↓] Go.wp_at_zero Go.wp_at_succ
structure NdAt (w:World) (nb:Nat) (x:Al) (a:Option Addr) (c:Nat):Prop where
 c0:w.cell? ⟨nb,0,none⟩=some (.string x.cls)
 c1:w.cell? ⟨nb,1,none⟩=some (.int .i64 x.arity)
 c2:w.cell? ⟨nb,2,none⟩=some (.slice a x.tests.length c)
 tt:zcp none w a x.tests
theorem NdAt.below {w w':World}{nb:Nat}{x:Al}{a:Option Addr}{c:Nat} (h:NdAt w nb x a c) (hb:Below w.heap.size w w'):NdAt w' nb x a c:=⟨zaa hb h.c0,zaa hb h.c1,zaa hb h.c2,h.tt.below hb⟩
set_option maxHeartbeats 3200000 in
theorem zf3 (nb:Nat) (x:Al) (a:Option Addr) (c:Nat) (pf:Value) (f:F) (w:World) (hN:NdAt w nb x a c) (hF:zcG w pf f) (hl:x.tests.length≤1048576) :
  Calls Tryz.prog 94 #[.pointer (some ⟨nb,0,none⟩),pf] w fun e w'=>e=.returned (.bool (passes x f))∧Below w.heap.size w w':=by
 obtain ⟨c0,c1,c2,htt⟩:=hN
 obtain ⟨b,o,rfl,f0,f1,sa,sc,f2,hsv⟩:=hF
 have HC:=hidP (fun w' (h:Below w.heap.size w w')=>zl4 x a c f sa sc w' (htt.below h) (hsv.below h) hl)
 have D:=hidP (Below.refl w.heap.size w)
 clear htt hsv
 go_enter Tryz.func94,Tryz.ntmps94
 go_wp2_with fail
 go_region_held3 (fun w'=>w'.cell? ⟨nb,0,none⟩=some (.string x.cls)∧w'.cell? ⟨nb,1,none⟩=some (.int .i64 x.arity)∧w'.cell? ⟨nb,2,none⟩=some (.slice a x.tests.length c)∧w'.cell? ⟨b,o,none⟩=some (.int .i64 f.tag)∧w'.cell? ⟨b,o+1,none⟩=some (.string f.cls)∧w'.cell? ⟨b,o+2,none⟩=some (.slice sa f.slots.length sc)∧Below w.heap.size w w') ((go_split_ands;refine ⟨?_,?_,?_,?_,?_,?_,?_⟩ <;> first | (simp [*];done) | exact D.out.drew | exact zaa hb' (by assumption) | exact Below.trans (by assumption) (Below.mono hb' (Below.size (by assumption))))) (first | (go_at_call 70;refine (HC.out _ (by first | exact D.out.drew | assumption)).mono ?_;rintro e w' ⟨rfl,hb'⟩) | fail)
 rename_i hh
 have D9:=hidP hh.2.2.2.2.2.2
 clear hh
 go_wp2_with fail
 go_ret
 exact ⟨rfl,D9.out⟩
structure Cn where
 neg:Bool
 at_:Nat
 node:Nat
 tests:List Jt
 alpha:Al
 facts:List F
structure CnR (w:World) (c:Cn) (ta:Option Addr):Prop where
 tests:zd2 w ta c.tests
 node:∃ a n,NdAt w c.node c.alpha a n
 facts:∃ fa fc,w.cell? ⟨c.node,4,none⟩=some (.slice fa c.facts.length fc)∧zhH w fa c.facts
theorem CnR.below {w w':World}{c:Cn}{ta:Option Addr} (h:CnR w c ta) (hb:Below w.heap.size w w'):CnR w' c ta:=by
 obtain ⟨h1,⟨a,n,h2⟩,fa,fc,h3,h4⟩:=h
 exact ⟨h1.below hb,⟨a,n,h2.below hb⟩,fa,fc,zaa hb h3,h4.below hb⟩
def zlC (w:World) (a:Option Addr) (cs:List Cn):Prop:=∀ (i:Nat) (c:Cn),cs[i]?=some c→∃ b o ta tc,a=some ⟨b,o,none⟩∧w.cell? ⟨b,o+i * 4,none⟩=some (.bool c.neg)∧w.cell? ⟨b,o+i * 4+1,none⟩=some (.int .i64 (c.at_:Int))∧w.cell? ⟨b,o+i * 4+2,none⟩=some (.pointer (some ⟨c.node,0,none⟩))∧w.cell? ⟨b,o+i * 4+3,none⟩=some (.slice ta c.tests.length tc)∧CnR w c ta
theorem zlC.below {w w':World}{a:Option Addr}{cs:List Cn} (h:zlC w a cs) (hb:Below w.heap.size w w'):zlC w' a cs:=by
 intro i c hi
 obtain ⟨b,o,ta,tc,e,h0,h1,h2,h3,h4⟩:=h i c hi
 exact ⟨b,o,ta,tc,e,zaa hb h0,zaa hb h1,zaa hb h2,zaa hb h3,h4.below hb⟩
def zpm (c:Cn):Prop:=c.tests.length≤1048576∧c.facts.length≤1048576∧c.alpha.tests.length≤1048576
end Go.Proofs.YtmmdlgjmplddiaaGreat
namespace Go.Proofs.YtmmdlgjmplddiaaGreat
open Go.RowKit
attribute [local go_sem ↓] Go.wp_at_zero Go.wp_at_succ
set_option maxHeartbeats 1600000 in
theorem zeI (y:Ac) (a_args:Option Addr) (c_args:Nat) (a_s:Option Addr) (c_s:Nat) (S:List Sp) (nx:Nat) {q q':Option Nat} (w:World) (h_args:zas q w a_args y.args) (hv:zdx q' w a_s S) (hl:S.length≤60) (hcl:y.cls.size≤maxLen) (hal:y.args.length≤1048576) (hnx:nx≤60) :
  Calls Tryz.prog 131 #[.agg #[.int .i64 y.kind,.int .i64 y.k,.string y.cls,.slice a_args y.args.length c_args],.slice a_s S.length c_s,.int .i64 (nx:Int)] w fun e w'=>
   (∃ v:Int,e=.returned (.tuple #[.int .i64 v,.bool (gAc S y nx).isSome])∧∀ n,gAc S y nx=some n→v=(n:Int)∧n≤60)∧Below w.heap.size w w':=by
 have B0:∀ o,Below w.heap.size w (w.alloc o):=fun o=>(Below.refl _ _).alloc (Nat.le_refl _) _
 obtain ⟨G⟩:Nonempty (Hid (gAc S y nx=if zay y && decide (y.args.length≤6) then zaN S y.args nx else none)):=⟨rfl⟩
 cases hfo:zay y
 ·have HN:Hid (gAc S y nx=none):=show gAc S y nx=none from by rw [G.out,hfo];rfl
  go_enter Tryz.func131,Tryz.ntmps131
  go_wp2_with (go_at_call 152;refine (zcA y a_args c_args _ hcl).mono ?_;rintro e w' ⟨rfl,hb'⟩)
  refine bodyPost_ret (v:=.tuple #[.int .i64 (nx:Int),.bool false]) (by simp [results,Tryz.results131,go_sem]) rfl ⟨⟨nx,by rw [HN.out];rfl,fun n h=>(by rw [HN.out] at h;cases h)⟩,(B0 _).trans (hb'.mono (by simp))⟩
 by_cases hn:6<y.args.length
 ·have hn':(6:Int)<(y.args.length:Int):=by omega
  have HN:Hid (gAc S y nx=none):=show gAc S y nx=none from by rw [G.out,hfo,decide_eq_false (by omega)];rfl
  go_enter Tryz.func131,Tryz.ntmps131
  go_wp2_with (go_at_call 152;refine (zcA y a_args c_args _ hcl).mono ?_;rintro e w' ⟨rfl,hb'⟩;have q3:w'.cell? ⟨w.heap.size,3,none⟩=some (.slice a_args y.args.length c_args):=zaa hb' (by simp [go_sem]))
  refine bodyPost_ret (v:=.tuple #[.int .i64 (nx:Int),.bool false]) (by simp [results,Tryz.results131,go_sem]) rfl ⟨⟨nx,by rw [HN.out];rfl,fun n h=>(by rw [HN.out] at h;cases h)⟩,(B0 _).trans (hb'.mono (by simp))⟩
 ·have hn':¬ (6:Int)<(y.args.length:Int):=by omega
  have HG0:Hid (gAc S y nx=zaN S y.args nx):=show gAc S y nx=_ from by rw [G.out,hfo,decide_eq_true (by omega)];rfl
  go_enter Tryz.func131,Tryz.ntmps131
  go_wp2_with (go_at_call 152;refine (zcA y a_args c_args _ hcl).mono ?_;rintro e w' ⟨rfl,hb'⟩;have q3:w'.cell? ⟨w.heap.size,3,none⟩=some (.slice a_args y.args.length c_args):=zaa hb' (by simp [go_sem]))
  have hB:Below w.heap.size w w':=(B0 _).trans (hb'.mono (by simp))
  clear q3 hb'
  go_loopw [2,23] (fun n i wr=>∃ (k nk:Nat),k≤y.args.length∧i=.int .i64 k∧n=.int .i64 (nk:Int)∧nk≤60∧zaN S y.args nx=zaN S (y.args.drop k) nk∧Below w.heap.size w wr) (fun _ i _=>y.args.length - (intOf i).toNat)
  case atStart=>exact ⟨0,nx,by omega,rfl,rfl,hnx,rfl,hB⟩
  case round=>
   obtain ⟨k,nk,hk,rfl,rfl,hnk,hG,hb⟩:=hrel
   have HG:Hid (gAc S y nx=zaN S (y.args.drop k) nk):=show gAc S y nx=_ from by rw [HG0.out,hG]
   clear hG
   by_cases hkl:k<y.args.length
   ·obtain ⟨v,hvk⟩:∃ v,y.args[k]?=some v:=⟨y.args[k],by simp [hkl]⟩
    obtain ⟨b,o,rfl,hq,c0⟩:=(h_args.below hb).get hvk
    have HD:Hid (y.args.drop k=v :: y.args.drop (k+1)):=zak hvk
    by_cases v0:v<0
    ·have HN:Hid (gAc S y nx=none):=show gAc S y nx=none from by
      rw [HG.out,HD.out,zaW,decide_eq_false (by omega)]
      rfl
     go_wp2
     refine bodyPost_ret (v:=.tuple #[.int .i64 (nk:Int),.bool false]) (by simp [results,Tryz.results131,go_sem]) rfl ⟨⟨nk,by rw [HN.out];rfl,fun n h=>(by rw [HN.out] at h;cases h)⟩,hb⟩
    ·by_cases v1:(S.length:Int)≤v
     ·have HN:Hid (gAc S y nx=none):=show gAc S y nx=none from by
       rw [HG.out,HD.out,zaW,decide_eq_false (p:=v<(S.length:Int)) (by omega)]
       simp
      go_wp2
      refine bodyPost_ret (v:=.tuple #[.int .i64 (nk:Int),.bool false]) (by simp [results,Tryz.results131,go_sem]) rfl ⟨⟨nk,by rw [HN.out];rfl,fun n h=>(by rw [HN.out] at h;cases h)⟩,hb⟩
     ·obtain ⟨vn,rfl⟩:=Int.eq_ofNat_of_zero_le (show 0≤v by omega)
      have hvn:vn<S.length:=by omega
      obtain ⟨s,hs⟩:∃ s,S[vn]?=some s:=⟨S[vn],by simp⟩
      obtain ⟨b',o',rfl,hbw,d0,d1⟩:=(hv.below hb).get hs
      have z1:¬ S.length≤vn:=by omega
      cases e3:((s.1:Int) != (nk:Int))
      ·have HN:Hid (gAc S y nx=zaN S (y.args.drop (k+1)) (vn+1)):=show gAc S y nx=_ from by
        have:s.1=nk:=by (simp at e3;omega)
        rw [HG.out,HD.out,zaW,decide_eq_true (by omega),decide_eq_true (by omega),Int.toNat_natCast,hs,Option.getD_some,decide_eq_true this]
        rfl
       go_wp2
       go_roundw
       case rel=>
        exact ⟨k+1,vn+1,by omega,by go_num,by go_num,by omega,by rw [← HG0.out,HN.out],hb⟩
       case measure=>simp [intOf];omega
      ·have HN:Hid (gAc S y nx=none):=show gAc S y nx=none from by
        have:¬ s.1=nk:=by (simp at e3;omega)
        rw [HG.out,HD.out,zaW,Int.toNat_natCast,hs,Option.getD_some,decide_eq_false this]
        simp
       go_wp2
       refine bodyPost_ret (v:=.tuple #[.int .i64 (nk:Int),.bool false]) (by simp [results,Tryz.results131,go_sem]) rfl ⟨⟨nk,by rw [HN.out];rfl,fun n h=>(by rw [HN.out] at h;cases h)⟩,hb⟩
   ·have HN:Hid (gAc S y nx=some nk):=show gAc S y nx=_ from by
     rw [HG.out,List.drop_eq_nil_of_le (by omega)]
     rfl
    go_wp2
    refine bodyPost_ret (v:=.tuple #[.int .i64 (nk:Int),.bool true]) (by simp [results,Tryz.results131,go_sem]) rfl ⟨⟨nk,by rw [HN.out];rfl,fun n h=>(by rw [HN.out] at h;injection h with h;subst h;exact ⟨rfl,hnk⟩)⟩,hb⟩
end Go.Proofs.YtmmdlgjmplddiaaGreat
