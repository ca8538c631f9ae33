/-
  OUR OWN TEXT. Ao2, Ms1, An0, Nd1, An4, An5, Ic1, one behind the other.
-/
import Derived.Test.YtmmdlgjmplddiaaGreatHal
import Derived.Test.YtmmdlgjmplddiaaGreatHaa
import Derived.Test.YtmmdlgjmplddiaaGreatHah
import Derived.Test.YtmmdlgjmplddiaaGreatHab
import Derived.Laws.Strings
import Derived.Deep.RegionHeld3
import Derived.Deep.DrawnRows
import Derived.Maps.RangeWalk
import Derived.Maps.OwnSet
import Derived.DeepKeys4
import Derived.Test.YtmmdlgjmplddiaaGreatHai
namespace Go.Proofs.YtmmdlgjmplddiaaGreat
open Go.RowKit
def zau (t:Tt):List Value:=[.int .i64 t.slot,.int .i64 t.op,.int .i64 t.other,.int .i64 t.val.kind,.int .i64 t.val.num,.string t.val.sym]
theorem zcX:∀ S:List Tt,(S.flatMap zau).length=S.length * 6
 | []=>rfl
 | s :: r=>by rw [List.flatMap_cons,List.length_append,zcX r];simp [zau];omega
theorem zfr:∀ (S:List Tt) (i:Nat) (s:Tt) (j:Nat) (v:Value),S[i]?=some s→(zau s)[j]?=some v→(S.flatMap zau)[i * 6+j]?=some v
 | [],i,s,j,v,h,_=>by simp at h
 | x :: r,0,s,j,v,h,hj=>by
  simp at h
  subst h
  have hl:j<(zau x).length:=(List.getElem?_eq_some_iff.1 hj).1
  rw [List.flatMap_cons,List.getElem?_append_left (by omega)]
  simpa using hj
 | x :: r,i+1,s,j,v,h,hj=>by
  have:=zfr r i s j v (by simpa using h) hj
  rw [List.flatMap_cons,List.getElem?_append_right (by simp [zau];omega),show (i+1) * 6+j - (zau x).length=i * 6+j by simp [zau];omega]
  exact this
theorem zcE.owns {w:World}{base n:Nat}{a:Option Addr}{c:Nat}{S:List Tt} (h:w.ownsRow base 111 6 (.slice a n c) n (S.flatMap zau)):zcE none w a S:=by
 intro i s hs
 obtain ⟨g,rfl,_,_,_⟩:=zam h (zfr S i s 0 _ hs rfl)
 refine ⟨g,0,zau s,rfl,Qb.bare _ _ _,rfl,?_,rfl⟩
 intro j v hj
 obtain ⟨g',hg',_,hc,_⟩:=zam h (zfr S i s j v hs hj)
 cases hg'
 rwa [Nat.zero_add]
theorem zbS (s:Tt):∀ u∈zau s,u.oneCell'=true:=by
 intro u hu
 simp [zau] at hu
 rcases hu with rfl | rfl | rfl | rfl | rfl | rfl <;> rfl
theorem zd8:(Tryz.prog.info? 111).map (fun i=>(i.zero,i.size,i.bytes))=some (some (.agg #[.int .i64 0,.int .i64 0,.int .i64 0,.int .i64 0,.int .i64 0,.string ⟨#[]⟩]),6,56):=by kernel_rfl
def C3 (w:World) (b:Nat) (x0 x1 x2:Value):Prop:=w.cell? ⟨b,0,none⟩=some x0∧w.cell? ⟨b,1,none⟩=some x1∧w.cell? ⟨b,2,none⟩=some x2∧w.frozen? ⟨b,0,none⟩=false∧w.frozen? ⟨b,1,none⟩=false∧w.frozen? ⟨b,2,none⟩=false
theorem C3.belowB {w w':World}{b B:Nat}{x0 x1 x2:Value} (h:C3 w b x0 x1 x2) (hb:Below B w w') (hB:b<B):C3 w' b x0 x1 x2:=by
 obtain ⟨h0,h1,h2,g0,g1,g2⟩:=h
 have hk:=hb.block b hB
 refine ⟨?_,?_,?_,?_,?_,?_⟩ <;> simp only [World.cell?,World.frozen?,hk] <;> assumption
theorem C3.lt {w:World}{b:Nat}{x0 x1 x2:Value} (h:C3 w b x0 x1 x2):b<w.heap.size:=by
 by_cases hp:b<w.heap.size
 ·exact hp
 ·have:w.heap[b]?=none:=Array.getElem?_eq_none (by omega)
  have h0:=h.1
  simp [World.cell?,this] at h0
theorem C3.below {w w':World}{b:Nat}{x0 x1 x2:Value} (h:C3 w b x0 x1 x2) (hb:Below w.heap.size w w'):C3 w' b x0 x1 x2:=h.belowB hb h.lt
theorem C3.made (w:World) (t:TypeId) (x0 x1 x2:Value):C3 (w.alloc (.cells #[x0,x1,x2] t)) w.heap.size x0 x1 x2:=by
 refine ⟨?_,?_,?_,?_,?_,?_⟩ <;> simp [go_sem]
theorem C3.set2 {w:World}{b:Nat}{x0 x1 x2:Value} (h:C3 w b x0 x1 x2) (y:Value):C3 (w.setCell ⟨b,2,none⟩ y) b x0 x1 y:=by
 have hl:=h.lt
 obtain ⟨h0,h1,h2,g0,g1,g2⟩:=h
 refine ⟨?_,?_,?_,?_,?_,?_⟩ <;> simp [go_sem, *]
theorem zeq {w w':World}{base:Nat}{t:TypeId}{m:Nat}{v:Value}{n:Nat}{xs:List Value} (h:w.ownsRow base t m v n xs) (hb:Below w.heap.size w w'):w'.ownsRow base t m v n xs:=
 zaf h (fun g hg=>hb.block g (h.lt g hg).2)
theorem zf6 {w1 wr w3:World}{B:Nat}{x0 x1 v:Value}{t:TypeId}{a3:Option Addr}{m c3:Nat}{xs:List Value} (hout:C3 wr B x0 x1 v) (hW3:Below (B+1) wr w3) (ho3:w3.ownsRow (B+1) t 6 (.slice a3 m c3) m xs) (hb:Below B w1 wr) :
  C3 (w3.setCell ⟨B,2,none⟩ (.slice a3 m c3)) B x0 x1 (.slice a3 m c3)∧(w3.setCell ⟨B,2,none⟩ (.slice a3 m c3)).ownsRow (B+1) t 6 (.slice a3 m c3) m xs∧Below B w1 (w3.setCell ⟨B,2,none⟩ (.slice a3 m c3)):=by
 refine ⟨(hout.belowB hW3 (by omega)).set2 _,zaf ho3 (fun g hg=>?_),(hb.trans (hW3.mono (by omega))).setCell (by simp) _⟩
 have:=(ho3.lt g hg).1
 exact Below.heap_setCell _ _ _ _ (by simp;omega)
theorem zcb (w:World) (L:List Value) (t:TypeId) (b:Nat) (hb:b=w.heap.size) (ad:Addr) (e:some (⟨b,0,none⟩:Addr)=some ad) (j:Nat) (u:Value) (h:L[j]?=some u):(w.alloc (.cells L.toArray t)).cell? (ad.add j)=some u:=by
 subst hb
 cases e
 rw [Addr.add_mid,Nat.zero_add]
 have hb:=heap_alloc_new w (.cells L.toArray t)
 simp only [World.cell?,hb]
 simpa using h
theorem zeW {s:ByteArray} (h:s.toList.isEmpty=true):s=⟨#[]⟩:=by
 have h1:(s.toList==(⟨#[]⟩:ByteArray).toList)=true:=by
  have:s.toList=[]:=by simpa using h
  rw [this,show (⟨#[]⟩:ByteArray).toList=[] by decide +kernel]
  rfl
 rw [zaM] at h1
 simpa using h1
theorem zjc {v:V} (h:zaZ v=true):v=zVa:=by
 simp only [zaZ,isE,Bool.and_eq_true,beq_iff_eq] at h
 obtain ⟨h0,h1,h2⟩:=h
 have h3:=zeW h2
 exact Prod.ext h0 (Prod.ext h1 h3)
theorem zlW {t:Tm} (h:gTm t=true) (hv:t.var.toList.isEmpty=false):t.val=zVa:=by
 have hE:isE t.var=false:=hv
 unfold gTm zcm at h
 rw [hE] at h
 split at h
 ·simp at h
 ·split at h
  ·simp at h
  ·split at h
   ·simp only [Bool.and_eq_true] at h
    exact zjc h.2.2
   ·split at h
    ·simp only [Bool.false_and,Bool.false_or,Bool.and_eq_true] at h
     exact zjc h.2.2.2
    ·cases h
theorem zlf {p:Pt} (h:gPt p=true) {i:Nat}{t:Tm} (ht:p.terms[i]?=some t):gTm t=true:=by
 simp only [gPt,Bool.and_eq_true] at h
 exact List.all_eq_true.1 h.2.2 t (List.mem_of_getElem? ht)
theorem zij {p:Pt} (h:gPt p=true):p.terms.length≤6:=by
 simp only [gPt,Bool.and_eq_true,decide_eq_true_eq] at h
 exact h.2.1
theorem zj7 {ts:List Tm}{k:Nat}{t:Tm} (h:ts[k]?=some t):zag ts (k+1)=zag ts k ++ (zbx ts k t).toList:=by
 simp [zag,h]
theorem zd3 (ts:List Tm):∀ k,(zag ts k).length≤k
 | 0=>Nat.le_refl _
 | k+1=>by
  have:=zd3 ts k
  unfold zag
  rw [List.length_append]
  cases ts[k]? with
  | none=>simp;omega
  | some t=>cases h:zbx ts k t <;> simp [h] <;> omega
end Go.Proofs.YtmmdlgjmplddiaaGreat
namespace Go.Proofs.YtmmdlgjmplddiaaGreat
theorem zdA {α:Type} (f:α→Bool):∀ (l:List α) (k:Nat),zaD f l k=none→∀ x∈l,f x=true
 | [],_,_,x,hx=>by simp at hx
 | y :: r,k,h,x,hx=>by
  unfold zaD at h
  cases hy:f y
  ·rw [hy] at h
   simp at h
  ·rw [hy] at h
   simp only [if_true] at h
   rcases List.mem_cons.1 hx with rfl | hx
   ·exact hy
   ·exact zdA f r (k+1) h x hx
theorem zem {r:Ru} (h:shape r=none):r.pats.length≤6∧∀ p∈r.pats,gPt p=true:=by
 unfold shape at h
 split at h
 ·rename_i hh
  simp only [zci,Bool.and_eq_true,decide_eq_true_eq] at hh
  refine ⟨hh.2.1,?_⟩
  cases hb:zaD gPt r.pats 1 with
  | some i=>rw [hb] at h;cases h
  | none=>exact zdA gPt r.pats 1 hb
 ·cases h
theorem zjf {pre:List Ru}{r:Ru} (h:(chk1 pre r).1=0):shape r=none∧positives r.pats≤3:=by
 unfold chk1 at h
 cases hs:shape r with
 | some i=>rw [hs] at h;simp at h
 | none=>
  refine ⟨rfl,?_⟩
  rw [hs] at h
  simp only at h
  split at h
  ·simp at h
  ·split at h
   ·rename_i hp
    exact hp.2
   ·simp at h
theorem zgc:∀ (l pre:List Ru) (k:Nat),(zcD pre l k).1=0→∀ r∈l,shape r=none∧positives r.pats≤3
 | [],_,_,_,r,hr=>by simp at hr
 | q :: s,pre,k,h,r,hr=>by
  unfold zcD at h
  split at h
  ·rename_i h0
   rcases List.mem_cons.1 hr with rfl | hr
   ·exact zjf h0
   ·exact zgc s _ _ h r hr
  ·rename_i h0
   exact absurd h h0
theorem zeP {rs:List Ru} (h:(chk rs).1=0):rs.length≤16∧∀ r∈rs,shape r=none∧positives r.pats≤3:=by
 unfold chk at h
 split at h
 ·rename_i hl
  exact ⟨hl,zgc rs [] 0 h⟩
 ·simp at h
theorem zdi {rs:List Ru} (h:(chk rs).1=0) {r:Ru} (hr:r∈rs):r.pats.length≤6∧(∀ p∈r.pats,p.terms.length≤6)∧positives r.pats≤3:=by
 obtain ⟨h1,h2⟩:=(zeP h).2 r hr
 obtain ⟨h3,h4⟩:=zem h1
 refine ⟨h3,fun p hp=>?_,h2⟩
 have:=h4 p hp
 simp only [gPt,Bool.and_eq_true,decide_eq_true_eq] at this
 exact this.2.1
end Go.Proofs.YtmmdlgjmplddiaaGreat
namespace Go.Proofs.YtmmdlgjmplddiaaGreat
def Tt.tup (t:Tt):Int × Int × Int × Int × Int × ByteArray:=(t.slot,t.op,t.other,t.val.kind,t.val.num,t.val.sym)
def Al.tup (x:Al):ByteArray × Int × List (Int × Int × Int × Int × Int × ByteArray):=(x.cls,x.arity,x.tests.map Tt.tup)
theorem Tt.tup_inj {x y:Tt} (h:x.tup=y.tup):x=y:=by
 obtain ⟨a1,a2,a3,a4,a5,a6⟩:=x
 obtain ⟨b1,b2,b3,b4,b5,b6⟩:=y
 simp only [Tt.tup,V.kind,V.num,V.sym,Prod.mk.injEq] at h
 obtain ⟨rfl,rfl,rfl,rfl,rfl,rfl⟩:=h
 rfl
theorem zi7:∀ {xs ys:List Tt},xs.map Tt.tup=ys.map Tt.tup→xs=ys
 | [],[],_=>rfl
 | [],_ :: _,h=>by simp at h
 | _ :: _,[],h=>by simp at h
 | x :: xs,y :: ys,h=>by
  simp only [List.map_cons,List.cons.injEq] at h
  rw [Tt.tup_inj h.1,zi7 h.2]
theorem Al.tup_inj {x y:Al} (h:x.tup=y.tup):x=y:=by
 obtain ⟨a1,a2,a3⟩:=x
 obtain ⟨b1,b2,b3⟩:=y
 simp only [Al.tup,Prod.mk.injEq] at h
 obtain ⟨rfl,rfl,h3⟩:=h
 rw [zi7 h3]
def zju (x y:Al):Bool:=decide (x.cls=y.cls) && (decide (x.arity=y.arity) && decide (x.tests.map Tt.tup=y.tests.map Tt.tup))
theorem zfb {x y:Al}:zju x y=true ↔ x=y:=by
 unfold zju
 simp only [Bool.and_eq_true,decide_eq_true_eq]
 exact ⟨fun h=>Al.tup_inj (by simp [Al.tup,h.1,h.2.1,h.2.2]),fun h=>by rw [h];exact ⟨rfl,rfl,rfl⟩⟩
def zbR (x:Al):List Al→Nat
 | []=>0
 | y :: r=>if zju y x then 0 else zbR x r+1
theorem zja (x:Al):∀ A:List Al,zbR x A≤A.length
 | []=>Nat.le_refl _
 | y :: r=>by
  have:=zja x r
  unfold zbR
  split <;> simp
  omega
theorem zi4 {x:Al}:∀ {A:List Al},zbR x A<A.length→A[zbR x A]?=some x
 | [],h=>by simp at h
 | y :: r,h=>by
  unfold zbR at h ⊢
  split
  ·rename_i hs
   rw [zfb.1 hs]
   rfl
  ·rename_i hs
   rw [if_neg hs] at h
   simp only [List.getElem?_cons_succ]
   exact zi4 (by simpa using h)
def addA (A:List Al) (x:Al):List Al:=if zbR x A<A.length then A else A ++ [x]
theorem ziP {A:List Al}{x:Al} (h:zbR x A<A.length):addA A x=A:=if_pos h
theorem ziU {A:List Al}{x:Al} (h:¬ zbR x A<A.length):addA A x=A ++ [x]:=if_neg h
theorem zhi {A:List Al}{x:Al} (h:¬ zbR x A<A.length):zbR x A=A.length:=by have:=zja x A;omega
theorem ziX (A:List Al) (x:Al):(addA A x).length≤A.length+1:=by
 unfold addA
 split <;> simp
theorem zc0 (p:Pt):(zaB p).tests.length≤6:=by
 unfold zaB
 split
 ·rename_i h
  exact Nat.le_trans (zd3 _ _) (zij h)
 ·simp
end Go.Proofs.YtmmdlgjmplddiaaGreat
namespace Go.Proofs.YtmmdlgjmplddiaaGreat
open Go.RowKit
theorem zbr {p:Prop} (h:p):Hid p:=h
abbrev AlX:=Al × Value
def AlP (w:World) (base:Nat) (x:AlX):Prop:=(∃ a c,x.2=.slice a x.1.tests.length c)∧w.ownsRow base 111 6 x.2 x.1.tests.length (x.1.tests.flatMap zau)
theorem AlP.bel {w w':World}{base:Nat}{x:AlX} (h:AlP w base x) (hb:Below w.heap.size w w'):AlP w' base x:=⟨h.1,zai h.2 hb⟩
theorem cells3N {w:World}{b:Nat}{ty:TypeId}{x0 x1 x2:Value} (h:w.heap[b]?=some (.cells #[x0,x1,x2] ty (0,0))):w.cell? ⟨b,0,none⟩=some x0∧w.cell? ⟨b,1,none⟩=some x1∧w.cell? ⟨b,2,none⟩=some x2:=by
 refine ⟨?_,?_,?_⟩ <;> simp [World.cell?,h]
end Go.Proofs.YtmmdlgjmplddiaaGreat
namespace Go.Proofs.YtmmdlgjmplddiaaGreat
open Go.RowKit Go.Maps
attribute [local go_sem ↓] Go.wp_at_zero Go.wp_at_succ
def zT:Tt:=⟨0,0,0,(0,0,⟨#[]⟩)⟩
def padT (ts:List Tt):List Tt:=ts ++ List.replicate (6 - ts.length) zT
def zc9 (cls:ByteArray) (n:Int) (ts:List Tt):List Value:=.string cls :: .int .i64 n :: ts.flatMap zau
def keyA (x:Al):List Value:=zc9 x.cls x.arity (padT x.tests)
theorem zmA (ts:List Tt):∀ x∈ts.flatMap zau,x.oneCell'=true:=by
 intro x hx
 obtain ⟨t,_,ht⟩:=List.mem_flatMap.1 hx
 exact zbS t x ht
theorem zcV (cls:ByteArray) (n:Int) (ts:List Tt):(zc9 cls n ts).length=ts.length * 6+2:=by
 show (ts.flatMap zau).length+1+1=_
 rw [zcX]
theorem zee (cls:ByteArray) (n:Int) (ts:List Tt):∀ x∈zc9 cls n ts,x.oneCell'=true:=by
 intro x hx
 simp only [zc9,List.mem_cons] at hx
 rcases hx with rfl | rfl | hx
 ·rfl
 ·rfl
 ·exact zmA ts x hx
theorem zdQ (ts:List Tt) (h:ts.length≤6):(padT ts).length=6:=by simp [padT];omega
theorem zii (cls:ByteArray) (n:Int) (ts:List Tt) (h:ts.length≤6) :
  (zc9 cls n (List.replicate 6 zT)).take 2 ++ (ts.flatMap zau ++ (zc9 cls n (List.replicate 6 zT)).drop (2+(ts.flatMap zau).length))=zc9 cls n (padT ts):=by
 have e:∀ k,k≤6→((List.replicate 6 zT).flatMap zau).drop (k * 6)=(List.replicate (6 - k) zT).flatMap zau:=by
  intro k hk
  rcases (show k=0∨k=1∨k=2∨k=3∨k=4∨k=5∨k=6 by omega) with rfl | rfl | rfl | rfl | rfl | rfl | rfl <;> rfl
 rw [zcX]
 unfold zc9 padT
 rw [List.flatMap_append,← e ts.length h,show 2+ts.length * 6=ts.length * 6+1+1 by omega]
 rfl
theorem zog (ts:List Tt) (j:Nat) (x:Value) (h:(ts.flatMap zau)[j]?=some x):∃ t,ts[j / 6]?=some t∧(zau t)[j % 6]?=some x:=by
 induction ts generalizing j with
 | nil=>simp at h
 | cons t r ih=>
  have hlen:(zau t).length=6:=rfl
  rw [List.flatMap_cons] at h
  by_cases hj:j<6
  ·rw [List.getElem?_append_left (by omega)] at h
   refine ⟨t,?_,?_⟩
   ·rw [show j / 6=0 by omega];rfl
   ·rwa [show j % 6=j by omega]
  ·rw [List.getElem?_append_right (by omega)] at h
   obtain ⟨u,h1,h2⟩:=ih (j - (zau t).length) h
   rw [hlen] at h1 h2
   refine ⟨u,?_,?_⟩
   ·rw [show j / 6=(j - 6) / 6+1 by omega];exact h1
   ·rwa [show j % 6=(j - 6) % 6 by omega]
theorem zcE.flat {q:Option Nat}{w:World}{ad:Addr}{ts:List Tt} (h:zcE q w (some ad) ts) (j:Nat) (x:Value) (hx:(ts.flatMap zau)[j]?=some x):w.cell? (ad.add j)=some x:=by
 obtain ⟨t,ht,hc⟩:=zog ts j x hx
 obtain ⟨b,o,r,he,_,_,h4,hR⟩:=h _ t ht
 cases he
 have hR':r=zau t:=hR
 have hadd:(⟨b,o,none⟩:Addr).add j=⟨b,o+j,none⟩:=Addr.add_mid b o j
 rw [hadd]
 have:=h4 (j % 6) x (by rw [hR'];exact hc)
 rw [show o+j=o+j / 6 * 6+j % 6 by omega]
 exact this
theorem zcE.nil' {q:Option Nat}{w:World}{ts:List Tt} (h:zcE q w none ts):ts.length=0:=by
 cases ts with
 | nil=>rfl
 | cons v r=>
  obtain ⟨b,o,_,he,_⟩:=h 0 v rfl
  cases he
theorem zeL (w:World) (o:Obj) (n:Nat) (h:w.heap.size=n):(w.alloc o).heap[n]?=some o:=by
 subst h
 exact heap_alloc_new _ _
theorem zfV:(Tryz.prog.info? 153).map (·.size)=some 38:=by kernel_rfl
theorem znO:(Tryz.prog.info? 111).map (·.size)=some 6:=by kernel_rfl
set_option maxHeartbeats 1600000 in
theorem zlP (x:Al) (a:Option Addr) (c:Nat) {q:Option Nat} (w:World) (hv:zcE q w a x.tests) (hl:x.tests.length≤6) :
  Calls Tryz.prog 68 #[.agg #[.string x.cls,.int .i64 x.arity,.slice a x.tests.length c]] w fun e w'=>
   e=.returned (.agg (keyA x).toArray)∧Below w.heap.size w w':=by
 go_enter Tryz.func68,Tryz.ntmps68
 go_wp2_with (refine zak (by rfl) 153 (.tmp 3) (.tmp 8) (by rfl) (w.heap.size+1+1) (zc9 x.cls x.arity (List.replicate 6 zT)) (by rfl) (by rfl) _ 153 (zeL _ _ _ (by simp)) (by rfl) (by rw [zcV];exact zfV) (zee _ _ _) ?_;intro w1 hb1 ht1)
 go_frame
 have T1:=ht1.out
 have q2:w1.cell? ⟨w.heap.size,2,none⟩=some (.slice a x.tests.length c):=by rw [T1.cell (by simp;omega)];simp [go_sem]
 obtain ⟨c0,R0,hc0⟩:∃ c0:Array Value,w1.heap[w.heap.size+1]?=some (.cells c0 153 (0,0))∧c0.size=38:=
  ⟨_,(T1.block _ (by omega)).trans ((Below.heap_alloc _ _ _ (by simp)).trans (zeL _ _ _ (by simp))),rfl⟩
 have R1:Hid (w1.heap[w.heap.size+1]?=some (.cells c0 153 (0,0))):=R0
 have HC:Hid (c0.size=38):=hc0
 clear R0 hc0
 have B1:Below w.heap.size w w1:=((((Below.refl _ _).alloc (Nat.le_refl _) _).alloc (by simp) _).alloc (by simp;omega) _).trans (T1.below (by omega))
 have hv1:=hv.below B1
 have hz1:w1.heap.size=w.heap.size+1+1+1:=by rw [T1.size];simp
 have HZ:Hid (w1.heap.size=w.heap.size+1+1+1):=hz1
 clear hz1 ht1 T1 hv
 have hmin:Nat.min x.tests.length 6=x.tests.length:=by simp [Nat.min_def];omega
 have HM:Hid (Nat.min x.tests.length 6=x.tests.length):=hmin
 clear hmin
 go_region_held3 (fun w'=>w'.cell? ⟨w.heap.size,2,none⟩=some (.slice a x.tests.length c)) ((first | (simp [*];done) | (rw [ht2.out.cell (by simp;omega)];simp [*])))
  ((refine zgS (by rfl) (.tmp 10) (.tmp 12) 55 55 (by rfl) 111 6 Tryz.underlying55 znO (w.heap.size+1+1) 2 6 6 a x.tests.length c (by rfl) (by rfl) _ 153 hb1.out (x.tests.flatMap zau) (by rw [HM.out,zcX]) (fun e=>zcE.nil' (e ▸ hv1)) (fun ad e=>zcE.flat (e ▸ hv1)) (by rw [zcX];simp [zcV];omega) (zmA _) ?_;intro w2 hb2 ht2))
 have hk:w2.heap[w.heap.size+1+1]?=some (.cells (keyA x).toArray 153 (0,0)):=by
  have:=hb2.out
  rw [List.toList_toArray,zii _ _ _ hl] at this
  exact this
 have T2:=ht2.out
 have R2:w2.heap[w.heap.size+1]?=some (.cells c0 153 (0,0)):=(T2.block _ (by omega)).trans R1.out
 have hlen:(keyA x).length=38:=by unfold keyA;rw [zcV,zdQ _ hl]
 have B2:Below w.heap.size w w2:=B1.drew.trans (T2.below (by omega))
 have HK:Hid (w2.heap[w.heap.size+1+1]?=some (.cells (keyA x).toArray 153 (0,0))):=hk
 have HR:Hid (w2.heap[w.heap.size+1]?=some (.cells c0 153 (0,0))):=R2
 have HL:Hid ((keyA x).length=38):=hlen
 clear hb2 ht2 T2 hk R2 hlen R1 hb1 q2
 go_wp2_with (first | (refine zdr (by rfl) 153 (.tmp 3) (by rfl) (w.heap.size+1+1) (keyA x) (by rfl) 153 (0,0) HK.out _ Tryz.underlying153 (by rfl) (by rw [HL.out];exact zfV) ?_) | (refine zak (by rfl) 153 (.tmp 2) (.tmp 14) (by rfl) (w.heap.size+1) (keyA x) (by rfl) (by rfl) c0 153 HR.out (by rw [HL.out];exact HC.out) (by rw [HL.out];exact zfV) (zee _ _ _) ?_;intro w3 hb3 ht3))
 have hld:=run_loadVar_mid (P:=Tryz.prog) w3 (w.heap.size+1) 0 153 (keyA x) _ (zdp hb3.out) Tryz.underlying153 rfl (by rw [HL.out];exact zfV)
 go_frame
 exact bodyPost_ret (v:=.agg (keyA x).toArray) (by simp [results,Tryz.results68,asAddr,hld]) rfl ⟨rfl,B2.trans (ht3.out.below (by omega))⟩
end Go.Proofs.YtmmdlgjmplddiaaGreat
namespace Go.Proofs.YtmmdlgjmplddiaaGreat
open Go.RowKit Go.Maps
theorem zn7:(153:TypeId)<Tryz.prog.types.size:=of_decide_eq_true (by kernel_rfl)
theorem znH:(match Tryz.prog.underlying 153 with | some (.array _ _) | some (.struct _)=>true | _=>false)=true:=by kernel_rfl
theorem znF:Tryz.prog.keyType 153=true:=by kernel_rfl
set_option maxRecDepth 100000 in
theorem zmp:Keyed Tryz.prog 153:=Keyed.of_law (deep_law_laid zkn (m:=6) (by omega) zn7 (by kernel_rfl) znH)
theorem zkr:Tryz.prog.cellsOf 153=38:=by kernel_rfl
theorem zkJ:Tryz.prog.cellsOf 151=36:=by kernel_rfl
theorem zkt:Tryz.prog.cellsOf 111=6:=by kernel_rfl
theorem zj8:Tryz.prog.cellsOf 109=3:=by kernel_rfl
def TOk (t:Tt):Prop:=(Lit.int .i64 t.slot).wf=true∧(Lit.int .i64 t.op).wf=true∧(Lit.int .i64 t.other).wf=true∧VOk t.val
def AOk (x:Al):Prop:=x.cls.size≤maxLen∧(Lit.int .i64 x.arity).wf=true∧x.tests.length≤6∧∀ t∈x.tests,TOk t∧t.op≠0
theorem zn3:TOk zT:=⟨by decide,by decide,by decide,by decide,by decide,by decide⟩
theorem zob (d:Nat) (v:V) (h:VOk v):Tryz.prog.keyLits (d+2) 109 [.int .i64 v.kind,.int .i64 v.num,.string v.sym]=some [.int .i64 v.kind,.int .i64 v.num,.string v.sym.data.toList]:=by
 obtain ⟨h1,h2,h3⟩:=h
 simp [Program.keyLits,Tryz.underlying109,Tryz.underlying3,Tryz.underlying2,Tryz.underlying9,zj8,zkw,zmb,zmH,h1,h2,h3]
theorem zjY (d:Nat) (t:Tt) (h:TOk t):∃ l,Tryz.prog.keyLits (d+3) 111 (zau t)=some l:=by
 obtain ⟨h1,h2,h3,h4⟩:=h
 have hI:∀ n:Int,(Lit.int .i64 n).wf=true→Tryz.prog.keyLits (d+2) 3 [.int .i64 n]=some [.int .i64 n]:=fun n hn=>by simp [Program.keyLits,Tryz.underlying3,hn]
 unfold Program.keyLits
 rw [Tryz.underlying111]
 simp only [zkt]
 rw [if_pos ⟨by rfl,by decide +kernel⟩]
 simp only [zau,List.mapM_cons,List.mapM_nil,zkw,zj8,List.drop_zero,List.take_succ_cons,List.take_zero,List.drop_succ_cons,hI _ h1,hI _ h2,hI _ h3,zob d t.val h4]
 exact ⟨_,rfl⟩
theorem zod (d:Nat) (a b c e f g:Tt) (ha:TOk a) (hb:TOk b) (hc:TOk c) (he:TOk e) (hf:TOk f) (hg:TOk g):(Tryz.prog.keyLits (d+4) 151 ([a,b,c,e,f,g].flatMap zau)).isSome=true:=by
 obtain ⟨la,ka⟩:=zjY d a ha
 obtain ⟨lb,kb⟩:=zjY d b hb
 obtain ⟨lc,kc⟩:=zjY d c hc
 obtain ⟨le,ke⟩:=zjY d e he
 obtain ⟨lf,kf⟩:=zjY d f hf
 obtain ⟨lg,kg⟩:=zjY d g hg
 unfold zau at ka kb kc ke kf kg
 unfold Program.keyLits
 rw [Tryz.underlying151]
 simp only [zkJ,zkt]
 rw [if_pos (by rfl)]
 simp only [show List.range 6=[0,1,2,3,4,5] by rfl,List.mapM_cons,List.mapM_nil]
 simp only [zau,List.flatMap_cons,List.flatMap_nil,List.cons_append,List.nil_append,Nat.zero_mul,Nat.one_mul,List.drop_zero,List.take_succ_cons,List.take_zero,List.drop_succ_cons,ka,kb,kc,ke,kf,kg]
 rfl
theorem zn4 (d:Nat) (cls:ByteArray) (n:Int) (hc:cls.size≤maxLen) (hn:(Lit.int .i64 n).wf=true) (L:List Value) (hL:L.length=36) (hA:(Tryz.prog.keyLits (d+1) 151 L).isSome=true) :
  (Tryz.prog.keyLits (d+2) 153 (.string cls :: .int .i64 n :: L)).isSome=true:=by
 obtain ⟨l,hl⟩:=Option.isSome_iff_exists.1 hA
 have hS:Tryz.prog.keyLits (d+1) 9 [.string cls]=some [.string cls.data.toList]:=by simp [Program.keyLits,Tryz.underlying9,hc]
 have hI:Tryz.prog.keyLits (d+1) 3 [.int .i64 n]=some [.int .i64 n]:=by simp [Program.keyLits,Tryz.underlying3,hn]
 have hT:L.take 36=L:=List.take_of_length_le (by omega)
 unfold Program.keyLits
 rw [Tryz.underlying153]
 simp only [zkr]
 rw [if_pos ⟨by simp [hL],by decide +kernel⟩]
 simp only [List.mapM_cons,List.mapM_nil,zmH,zkw,zkJ,List.drop_zero,List.take_succ_cons,List.take_zero,List.drop_succ_cons,hS,hI,hT,hl]
 rfl
theorem zlG (cls:ByteArray) (n:Int) (hc:cls.size≤maxLen) (hn:(Lit.int .i64 n).wf=true) (ts:List Tt) (hl:ts.length=6) (hv:∀ t∈ts,TOk t):∃ l,keyOf Tryz.prog 153 (.agg (zc9 cls n ts).toArray)=some l:=by
 match ts,hl with
 | [a,b,c,e,f,g],_=>
  have hk:=zod (Tryz.prog.types.size - 4) a b c e f g (hv _ (by simp)) (hv _ (by simp)) (hv _ (by simp)) (hv _ (by simp)) (hv _ (by simp)) (hv _ (by simp))
  have h3:4≤Tryz.prog.types.size:=of_decide_eq_true (by kernel_rfl)
  have hK:=zn4 (Tryz.prog.types.size - 4+3) cls n hc hn _ (by rfl) hk
  rw [show Tryz.prog.types.size - 4+3+2=Tryz.prog.types.size+1 by omega] at hK
  have hformed:(Value.agg (zc9 cls n [a,b,c,e,f,g]).toArray).formed Tryz.prog 153=true:=by
   simp [Value.formed,Tryz.underlying153,zkr,zcV]
  unfold keyOf
  rw [Tryz.underlying153]
  simp only [znF,hformed,Bool.and_self,if_true]
  obtain ⟨ls,hls⟩:=Option.isSome_iff_exists.1 hK
  show ∃ l,(Tryz.prog.keyLits (Tryz.prog.types.size+1) 153 (.string cls :: .int .i64 n :: [a,b,c,e,f,g].flatMap zau)).map _=some l
  rw [hls]
  exact ⟨_,rfl⟩
theorem zfT:∀ (us vs:List Tt),us.length=vs.length→us.flatMap zau=vs.flatMap zau→us=vs
 | [],[],_,_=>rfl
 | [],_ :: _,h,_=>by simp at h
 | _ :: _,[],h,_=>by simp at h
 | u :: us,v :: vs,h,e=>by
  simp only [List.flatMap_cons,zau,List.cons_append,List.nil_append,List.cons.injEq,Value.int.injEq,Value.string.injEq,true_and] at e
  obtain ⟨e1,e2,e3,e4,e5,e6,e7⟩:=e
  have hr:=zfT us vs (by simpa using h) e7
  rw [hr,Tt.tup_inj (x:=u) (y:=v) (by simp only [Tt.tup,e1,e2,e3,e4,e5,e6])]
theorem zmV {x:Al} (h:AOk x):∃ l,keyOf Tryz.prog 153 (.agg (keyA x).toArray)=some l:=by
 obtain ⟨h1,h2,h3,h4⟩:=h
 refine zlG x.cls x.arity h1 h2 (padT x.tests) (zdQ _ h3) ?_
 intro t ht
 rcases List.mem_append.1 ht with ht | ht
 ·exact (h4 t ht).1
 ·rw [List.eq_of_mem_replicate ht]
  exact zn3
def KLA (kl:Al→Lit):Prop:=∀ x,AOk x→keyOf Tryz.prog 153 (.agg (keyA x).toArray)=some (kl x)
theorem KLA.exist:∃ kl,KLA kl:=
 ⟨fun x=>(keyOf Tryz.prog 153 (.agg (keyA x).toArray)).getD (.bool false),fun x h=>by
  obtain ⟨l,hl⟩:=zmV h
  simp only [hl,Option.getD_some]⟩
def real (t:Tt):Bool:=!(t.op==0)
theorem zhh {ts:List Tt} (h:∀ t∈ts,t.op≠0):(padT ts).filter real=ts:=by
 unfold padT
 rw [List.filter_append,List.filter_eq_self.2 (fun t ht=>by simp [real,h t ht]),List.filter_eq_nil_iff.2 (fun t ht=>by rw [List.eq_of_mem_replicate ht];simp [real,zT]),List.append_nil]
theorem zkR {kl:Al→Lit} (K:KLA kl) {x y:Al} (hx:AOk x) (hy:AOk y) (h:kl x=kl y):x=y:=by
 have e:=zmp.inj (K x hx) (h ▸ K y hy)
 simp only [Value.agg.injEq] at e
 have e':keyA x=keyA y:=by simpa using congrArg Array.toList e
 unfold keyA zc9 at e'
 simp only [List.cons.injEq,Value.string.injEq,Value.int.injEq,true_and] at e'
 obtain ⟨e1,e2,e3⟩:=e'
 have hp:=zfT _ _ (by rw [zdQ _ hx.2.2.1,zdQ _ hy.2.2.1]) e3
 have ht:x.tests=y.tests:=by rw [← zhh (fun t ht=>(hx.2.2.2 t ht).2),← zhh (fun t ht=>(hy.2.2.2 t ht).2),hp]
 obtain ⟨x1,x2,x3⟩:=x
 obtain ⟨y1,y2,y3⟩:=y
 simp only at e1 e2 ht
 subst e1 e2 ht
 rfl
def ptrR (v:Value):Option (DataW Unit × List MemPlace):=
 match v with
 | .pointer (some ⟨b,0,none⟩)=>some (.lit (.int .i64 (b:Int)),[])
 | .pointer none=>some (.lit (.bool false),[])
 | _=>none
theorem zm4 (b:Nat):ptrR (.pointer (some ⟨b,0,none⟩))=some (.lit (.int .i64 (b:Int)),[]):=rfl
theorem zl0 {v:Value}{b:Nat}{ps:List MemPlace} (h:ptrR v=some (.lit (.int .i64 (b:Int)),ps)):v=.pointer (some ⟨b,0,none⟩):=by
 unfold ptrR at h
 split at h
 ·rename_i b'
  simp at h
  have e:b'=b:=by omega
  rw [e]
 ·simp at h
 ·cases h
def zP:DataW Unit:=.lit (.bool false)
structure MIA (kl:Al→Lit) (A:List Al) (bs:List Nat) (D:DataW Unit):Prop where
 len:bs.length=A.length
 yes:∀ x b,AOk x→bs[zbR x A]?=some b→has D (kl x)=true∧D.atKey (kl x) zP=.lit (.int .i64 (b:Int))
 no:∀ x,AOk x→¬ zbR x A<A.length→has D (kl x)=false
theorem MIA.start (kl:Al→Lit):MIA kl [] [] (.map []):=⟨rfl,fun x b _ h=>by simp at h,fun x _ _=>by simp [has]⟩
theorem zef (x y:Al):∀ A:List Al,zbR x (A ++ [y])=if zbR x A<A.length then zbR x A else if zju y x then A.length else A.length+1
 | []=>by simp [zbR]
 | z :: r=>by
  simp only [List.cons_append,zbR,List.length_cons]
  split
  ·simp
  ·rw [zef x y r]
   by_cases h1:zbR x r<r.length
   ·rw [if_pos h1,if_pos (show zbR x r+1<r.length+1 by omega)]
   ·rw [if_neg h1,if_neg (show ¬ zbR x r+1<r.length+1 by omega)]
    split <;> rfl
theorem MIA.add {kl:Al→Lit} (K:KLA kl) {A:List Al}{bs:List Nat}{D:DataW Unit}{y:Al}{b:Nat} (h:MIA kl A bs D) (hm:IsMap D) (hy:AOk y) (hn:¬ zbR y A<A.length):MIA kl (A ++ [y]) (bs ++ [b]) (D.put (kl y) (.lit (.int .i64 (b:Int)))):=by
 have hkey:WideAt.IsKeyLit (kl y):=zmp.key (K y hy)
 have hlen:=h.len
 refine ⟨by simp [hlen],fun x b' hx hb=>?_,fun x hx hno=>?_⟩
 ·rw [zef] at hb
  by_cases h1:zbR x A<A.length
  ·rw [if_pos h1,List.getElem?_append_left (by omega)] at hb
   have hne:kl x≠kl y:=fun e=>hn (by rw [← zkR K hx hy e];exact h1)
   rw [has_put_other hne,atKey_put_other hne]
   exact h.yes x b' hx hb
  ·rw [if_neg h1] at hb
   by_cases h2:zju y x=true
   ·rw [if_pos h2,List.getElem?_append_right (by omega),hlen,Nat.sub_self] at hb
    simp at hb
    subst hb
    have e:=zfb.1 h2
    subst e
    exact ⟨has_put_same hm hkey _,atKey_put_same hm hkey _ _⟩
   ·rw [if_neg h2,List.getElem?_append_right (by omega),hlen,Nat.add_sub_cancel_left] at hb
    simp at hb
 ·rw [zef] at hno
  by_cases h1:zbR x A<A.length
  ·rw [if_pos h1] at hno
   simp at hno
   omega
  ·rw [if_neg h1] at hno
   by_cases h2:zju y x=true
   ·rw [if_pos h2] at hno
    simp at hno
   ·have hne:kl x≠kl y:=fun e=>h2 (zfb.2 (zkR K hx hy e).symm)
    rw [has_put_other hne]
    exact h.no x hx h1
end Go.Proofs.YtmmdlgjmplddiaaGreat
namespace Go.Proofs.YtmmdlgjmplddiaaGreat
open Go.RowKit
attribute [local go_sem ↓] Go.wp_at_zero Go.wp_at_succ
set_option maxHeartbeats 800000 in
theorem zeH (t:Tm) (w:World) (hs:t.le maxLen) :
  Calls Tryz.prog 155 #[.agg #[.int .i64 t.kind,.int .i64 t.op,.string t.var,.int .i64 t.val.kind,.int .i64 t.val.num,.string t.val.sym]] w fun e w'=>
   e=.returned (.bool (zcm t))∧Below w.heap.size w w':=by
 obtain ⟨hs1,hs2⟩:=hs
 have B1:∀ o,Below w.heap.size w (w.alloc o):=fun o=>(Below.refl _ _).alloc (Nat.le_refl _) _
 obtain ⟨G⟩:Nonempty (Hid (zcm t=((t.var.toList.isEmpty && gVal t.val) || (gSym t.var.data.toList && zaZ t.val)))):=⟨rfl⟩
 cases h1:t.var.toList.isEmpty
 ·cases h4:gSym t.var.data.toList
  ·go_enter Tryz.func155,Tryz.ntmps155
   go_wp2_with (go_at_call 106;refine (zaQ t.var _ hs1).mono ?_;rintro e w' ⟨rfl,rfl⟩)
   go_ret
   exact ⟨zac (by rw [G.out,h1,h4];rfl),B1 _⟩
  ·go_enter Tryz.func155,Tryz.ntmps155
   go_wp2_with (go_at_call 106;refine (zaQ t.var _ hs1).mono ?_;rintro e w' ⟨rfl,rfl⟩)
   all_goals go_ret
   all_goals exact ⟨zac (by rw [G.out,h1,h4];simp [zaZ,isE, *]),(Below.refl _ _).alloc (Nat.le_refl _) _⟩
 ·have h4:gSym t.var.data.toList=false:=zdv (by
   have:t.var.toList=[]:=by simpa using h1
   rw [← ByteArray.toList_eq,this]
   rfl)
  go_enter Tryz.func155,Tryz.ntmps155
  go_wp2_with (go_at_call 138;refine (zc4 t.val _ hs2).mono ?_;rintro e w' ⟨rfl,hb'⟩)
  go_ret
  exact ⟨zac (by rw [G.out,h1,h4];simp),(B1 _).trans (hb'.mono (by simp))⟩
theorem zjF:notB.toList=[110,111,116]:=by rw [ByteArray.toList_eq];rfl
set_option maxHeartbeats 400000 in
theorem zb7 (s:ByteArray) (w:World) (hs:s.size≤maxLen) :
  Calls Tryz.prog 134 #[.string s] w fun e w'=>e=.returned (.bool (gCls s))∧w'=w:=by
 cases h1:gSym s.data.toList
 all_goals
  go_enter Tryz.func134,Tryz.ntmps134
  go_wp2_with (go_at_call 106;refine (zaQ s _ hs).mono ?_;rintro e w' ⟨rfl,rfl⟩)
  go_ret
 ·exact ⟨zac (by simp [gCls,h1]),rfl⟩
 ·exact ⟨zac (by rw [gCls,h1,← zaM,zjF];rfl),rfl⟩
set_option maxHeartbeats 400000 in
theorem zgv (t:Tm) (w:World) (hs:t.le maxLen) :
  Calls Tryz.prog 135 #[.agg #[.int .i64 t.kind,.int .i64 t.op,.string t.var,.int .i64 t.val.kind,.int .i64 t.val.num,.string t.val.sym]] w fun e w'=>
   e=.returned (.bool (gTm t))∧Below w.heap.size w w':=by
 have hs0:=hs
 obtain ⟨hs1,hs2⟩:=hs
 have B1:∀ o,Below w.heap.size w (w.alloc o):=fun o=>(Below.refl _ _).alloc (Nat.le_refl _) _
 by_cases k0:t.kind=0
 ·go_enter Tryz.func135,Tryz.ntmps135
  go_wp2
  all_goals go_ret
  all_goals exact ⟨zac (by simp [gTm,zaZ,isE, *]),(Below.refl _ _).alloc (Nat.le_refl _) _⟩
 by_cases k1:t.kind=1
 ·by_cases o0:t.op=0
  ·by_cases v0:t.var.toList=[]
   ·go_enter Tryz.func135,Tryz.ntmps135
    go_wp2_with (go_at_call 138;refine (zc4 t.val _ hs2).mono ?_;rintro e w' ⟨rfl,hb'⟩)
    go_ret
    exact ⟨zac (by simp [gTm,isE, *]),(B1 _).trans (hb'.mono (by simp))⟩
   ·go_enter Tryz.func135,Tryz.ntmps135
    go_wp2
    go_ret
    exact ⟨zac (by simp [gTm,isE, *]),(Below.refl _ _).alloc (Nat.le_refl _) _⟩
  ·go_enter Tryz.func135,Tryz.ntmps135
   go_wp2
   go_ret
   exact ⟨zac (by simp [gTm,isE, *]),(Below.refl _ _).alloc (Nat.le_refl _) _⟩
 by_cases k2:t.kind=2
 ·by_cases o0:t.op=0
  ·by_cases z0:t.val.kind=0
   ·by_cases z1:t.val.num=0
    ·by_cases z2:t.val.sym.toList=[]
     ·go_enter Tryz.func135,Tryz.ntmps135
      go_wp2_with (go_at_call 106;refine (zaQ t.var _ hs1).mono ?_;rintro e w' ⟨rfl,rfl⟩)
      go_ret
      exact ⟨zac (by simp [gTm,zaZ,isE, *]),(Below.refl _ _).alloc (Nat.le_refl _) _⟩
     ·go_enter Tryz.func135,Tryz.ntmps135
      go_wp2
      go_ret
      exact ⟨zac (by simp [gTm,zaZ,isE, *]),(Below.refl _ _).alloc (Nat.le_refl _) _⟩
    ·go_enter Tryz.func135,Tryz.ntmps135
     go_wp2
     go_ret
     exact ⟨zac (by simp [gTm,zaZ,isE, *]),(Below.refl _ _).alloc (Nat.le_refl _) _⟩
   ·go_enter Tryz.func135,Tryz.ntmps135
    go_wp2
    go_ret
    exact ⟨zac (by simp [gTm,zaZ,isE, *]),(Below.refl _ _).alloc (Nat.le_refl _) _⟩
  ·go_enter Tryz.func135,Tryz.ntmps135
   go_wp2
   go_ret
   exact ⟨zac (by simp [gTm,zaZ,isE, *]),(Below.refl _ _).alloc (Nat.le_refl _) _⟩
 by_cases k3:t.kind=3
 ·by_cases o1:1≤t.op
  ·by_cases o2:t.op≤6
   ·have HO:Hid (gTm t=zcm t):=show gTm t=zcm t from by simp [gTm,k3,o1,o2]
    have hro:=fun w=>zeH t w hs0
    simp only [k3] at hro
    go_enter Tryz.func135,Tryz.ntmps135
    go_wp2_with (go_at_call 155;refine (hro _).mono ?_;rintro e w' ⟨rfl,hb'⟩)
    go_ret
    exact ⟨zac HO.out.symm,(B1 _).trans (hb'.mono (by simp))⟩
   ·have HO:Hid (gTm t=false):=show gTm t=false from by simp [gTm,k3,o2]
    go_enter Tryz.func135,Tryz.ntmps135
    go_wp2
    go_ret
    exact ⟨zac (by rw [HO.out]),B1 _⟩
  ·have HO:Hid (gTm t=false):=show gTm t=false from by simp [gTm,k3,o1]
   go_enter Tryz.func135,Tryz.ntmps135
   go_wp2
   go_ret
   exact ⟨zac (by rw [HO.out]),B1 _⟩
 ·have HO:Hid (gTm t=false):=show gTm t=false from by simp [gTm,k0,k1,k2,k3]
  go_enter Tryz.func135,Tryz.ntmps135
  go_wp2
  go_ret
  exact ⟨zac (by rw [HO.out]),B1 _⟩
set_option maxHeartbeats 800000 in
theorem zes (x:Pt) (a:Option Addr) (c:Nat) {q:Option Nat} (w:World) (hv:zch q w a x.terms) (hc:x.cls.size≤maxLen) (hs:zbs Tm.le maxLen x.terms) (hl:x.terms.length≤1048576) :
  Calls Tryz.prog 103 #[.agg #[.bool x.neg,.string x.cls,.slice a x.terms.length c]] w fun e w'=>
   e=.returned (.bool (gPt x))∧Below w.heap.size w w':=by
 obtain ⟨G⟩:Nonempty (Hid (gPt x=(gCls x.cls && (decide (x.terms.length≤6) && x.terms.all gTm)))):=⟨rfl⟩
 have B0:∀ o,Below w.heap.size w (w.alloc o):=fun o=>(Below.refl _ _).alloc (Nat.le_refl _) _
 cases hg:gCls x.cls
 ·go_enter Tryz.func103,Tryz.ntmps103
  go_wp2_with (go_at_call 134;refine (zb7 x.cls _ hc).mono ?_;rintro e w' ⟨rfl,rfl⟩)
  go_ret
  exact ⟨zac (by rw [G.out,hg];rfl),B0 _⟩
 by_cases h6:6<x.terms.length
 ·have h6':(6:Int)<(x.terms.length:Int):=by omega
  go_enter Tryz.func103,Tryz.ntmps103
  go_wp2_with (go_at_call 134;refine (zb7 x.cls _ hc).mono ?_;rintro e w' ⟨rfl,rfl⟩)
  go_ret
  exact ⟨zac (by rw [G.out,hg,decide_eq_false (by omega)];rfl),B0 _⟩
 ·have h6':¬ (6:Int)<(x.terms.length:Int):=by omega
  go_enter Tryz.func103,Tryz.ntmps103
  go_wp2_with (go_at_call 134;refine (zb7 x.cls _ hc).mono ?_;rintro e w' ⟨rfl,rfl⟩)
  go_loopw [18] (fun i wr=>∃ (k:Nat),k≤x.terms.length∧i=.int .i64 k∧gPt x=(x.terms.drop k).all gTm∧Below w.heap.size w wr) (fun i _=>x.terms.length - (intOf i).toNat)
  case atStart=>exact ⟨0,by omega,rfl,by rw [G.out,hg,decide_eq_true (by omega)];rfl,B0 _⟩
  case round=>
   obtain ⟨k,hk,rfl,hG,hb⟩:=hrel
   have HG:Hid (gPt x=(x.terms.drop k).all gTm):=hG
   clear hG
   by_cases hkl:k<x.terms.length
   ·obtain ⟨t,htk⟩:∃ t,x.terms[k]?=some t:=⟨x.terms[k],by simp [hkl]⟩
    obtain ⟨b,o,rfl,hq,c0,c1,c2,c3,c4,c5⟩:=(hv.below hb).get htk
    have hst:=hs.2 t (List.mem_of_getElem? htk)
    have HD:Hid (x.terms.drop k=t :: x.terms.drop (k+1)):=zan htk
    have B1:∀ o,Below w.heap.size w (wr.alloc o):=fun o=>hb.alloc hb.size _
    cases hgt:gTm t
    all_goals
     go_wp2_with (go_at_call 135;refine (zgv t _ hst).mono ?_;rintro e w' ⟨rfl,hb'⟩)
    ·go_ret
     exact ⟨zac (by rw [HG.out,HD.out,List.all_cons,hgt];rfl),(B1 _).trans (hb'.mono (B1 _).size)⟩
    ·go_roundw
     case rel=>exact ⟨k+1,by omega,by go_num,by rw [HG.out,HD.out,List.all_cons,hgt];rfl,(B1 _).trans (hb'.mono (B1 _).size)⟩
     case measure=>simp [intOf];omega
   ·go_wp2
    go_ret
    exact ⟨zac (by rw [HG.out,List.drop_eq_nil_of_le (by omega)];rfl),hb⟩
end Go.Proofs.YtmmdlgjmplddiaaGreat
