/-
  OUR OWN TEXT. Md0, Vm, Dw12, Dw13, RdD, one behind the other.
-/
import Derived.Test.YtmmdlgjmplddiaaGreatKbw
import Derived.Test.YtmmdlgjmplddiaaGreatKbt
import Derived.Test.YtmmdlgjmplddiaaGreatKbu
import Derived.Test.YtmmdlgjmplddiaaGreatKbv
import Derived.Test.YtmmdlgjmplddiaaGreatKaj
import Derived.Test.YtmmdlgjmplddiaaGreatKbn
namespace Go.Proofs.YtmmdlgjmplddiaaGreat
open Go.RowKit
end Go.Proofs.YtmmdlgjmplddiaaGreat
namespace Go.Proofs.YtmmdlgjmplddiaaGreat
structure VS (fs:List F) (nx cp:Int) (sg:Bool):Prop where
 cp0:0≤cp
 cp40:cp≤40
 len:(fs.length:Int)≤cp
 good:zbs 0 fs=true
 nx1:1≤nx
 nxm:nx≤1000001
 low:∀ f∈fs,f.tag<nx
 nodup:sg=true→(fs.map like).Nodup
theorem VS.iff {fs:List F}{nx cp:Int}{sg:Bool}:zby fs nx cp sg=true ↔ VS fs nx cp sg:=by
 unfold zby
 cases sg with
 | false=>
  rw [zfI]
  simp only [zeN,zaS,Bool.and_eq_true,decide_eq_true_eq,List.all_eq_true]
  constructor
  ·rintro ⟨⟨h1,h2,h3,⟨h4,h5⟩,h6,h7⟩,h8⟩
   exact ⟨h1,h2,h3,h5,h6,h7,h8,fun h=>by cases h⟩
  ·intro h
   exact ⟨⟨h.cp0,h.cp40,h.len,⟨by have:=h.len;have:=h.cp40;omega,h.good⟩,h.nx1,h.nxm⟩,h.low⟩
 | true=>
  rw [zgk nx fs [] List.nodup_nil]
  simp only [zeN,zaS,Bool.and_eq_true,decide_eq_true_eq,List.all_eq_true,List.nil_append]
  constructor
  ·rintro ⟨⟨h1,h2,h3,⟨h4,h5⟩,h6,h7⟩,h8,h9⟩
   exact ⟨h1,h2,h3,h5,h6,h7,h8,fun _=>h9⟩
  ·intro h
   exact ⟨⟨h.cp0,h.cp40,h.len,⟨by have:=h.len;have:=h.cp40;omega,h.good⟩,h.nx1,h.nxm⟩,h.low,h.nodup rfl⟩
theorem zgh:∀ {fs:List F}{last:Int}{g:F},zbs last fs=true→(∀ f∈fs,f.tag<g.tag)→last<g.tag→g.tag≤1000000→gSym g.cls.data.toList=true→zbn g.slots=true→zbs last (fs ++ [g])=true
 | [],last,g,_,_,h1,h2,h3,h4=>by simp [zbs,okF,h1,h2,h3,h4]
 | f :: r,last,g,h,hl,h1,h2,h3,h4=>by
  simp only [zbs,Bool.and_eq_true,List.cons_append] at h ⊢
  exact ⟨h.1,zgh h.2 (fun x hx=>hl x (by simp [hx])) (hl f (by simp)) h2 h3 h4⟩
theorem zia {but:Int}{cls:ByteArray}{vs:List V}:∀ {fs:List F}{last:Int},0≤last→zbs last fs=true→¬ 0<zgU but cls vs fs→∀ f∈fs,bars but cls vs f=false
 | [],_,_,_,_,f,hf=>by simp at hf
 | g :: r,last,hl,h,ht,f,hf=>by
  simp only [zbs,okF,Bool.and_eq_true,decide_eq_true_eq] at h
  unfold zgU at ht
  split at ht
  ·omega
  ·rcases List.mem_cons.1 hf with rfl | hf
   ·simpa using ‹¬ bars but cls vs f=true›
   ·exact zia (last:=g.tag) (by omega) h.2 ht f hf
theorem zmy {but:Int}{cls:ByteArray}{vs:List V}{fs:List F} (h:∀ f∈fs,bars but cls vs f=false) (hb:∀ f∈fs,f.tag≠but):(cls,vs) ∉ fs.map like:=by
 intro hm
 obtain ⟨f,hf,he⟩:=List.mem_map.1 hm
 have h1:=h f hf
 have h2:=hb f hf
 simp only [like,Prod.mk.injEq] at he
 simp [bars,h2,he.1,he.2] at h1
theorem VS.add {fs:List F}{nx cp:Int}{sg:Bool}{cls:ByteArray}{vs:List V} (h:VS fs nx cp sg) (hn:¬ 1000000<nx) (hl:(fs.length:Int)<cp) (h2:gSym cls.data.toList=true) (h3:zbn vs=true) (hf:sg=true→(cls,vs) ∉ fs.map like):VS (fs ++ [⟨nx,cls,vs⟩]) (nx+1) cp sg:=by
 refine ⟨h.cp0,h.cp40,by simp;omega,zgh h.good (fun f hf'=>h.low f hf') (by have:=h.nx1;show (0:Int)<nx;omega) (by show nx≤1000000;omega) h2 h3,by have:=h.nx1;omega,by omega,?_,?_⟩
 ·intro f hf'
  rcases List.mem_append.1 hf' with hf' | hf'
  ·have:=h.low f hf'
   omega
  ·simp at hf'
   subst hf'
   show nx<nx+1
   omega
 ·intro hs
  rw [List.map_append,List.nodup_append]
  refine ⟨h.nodup hs,by simp,fun x hx y hy e=>?_⟩
  simp at hy
  subst hy
  rw [e] at hx
  exact hf hs hx
def Told (fs:List F) (nx cp:Int) (sg:Bool) (r:C6):Prop:=r.code=1∨(VS r.fs r.nx r.cp r.sg∧nx≤r.nx∧r.cp=cp∧r.sg=sg∧(r.code≠0→r.fs=fs∧r.nx=nx))
theorem Told.same {fs:List F}{nx cp:Int}{sg:Bool} (h:VS fs nx cp sg) (k t:Int):Told fs nx cp sg ⟨fs,nx,cp,sg,k,t⟩:=.inr ⟨h,Int.le_refl _,rfl,rfl,fun _=>⟨rfl,rfl⟩⟩
theorem znt {fs:List F} (h:zbs 0 fs=true):∀ f∈fs,f.tag≠0:=fun f hf=>by
 have:=zft h f hf
 omega
theorem zlV {fs:List F}{nx cp:Int}{sg:Bool} (cls:ByteArray) (vs:List V) (h:VS fs nx cp sg):Told fs nx cp sg (asrt fs nx cp sg cls vs):=by
 cases hg:(zby fs nx cp sg && (gSym cls.data.toList && zbn vs))
 ·rw [znw hg]
  exact .inl rfl
 ·simp only [Bool.and_eq_true] at hg
  obtain ⟨h1,h2,h3⟩:=hg
  rw [zla h1 h2 h3]
  unfold asOk
  split
  ·exact Told.same h _ _
  ·rename_i ht
   split
   ·exact Told.same h _ _
   ·rename_i hc
    split
    ·exact Told.same h _ _
    ·rename_i hn
     refine .inr ⟨h.add hn (by have:=h.len;omega) h2 h3 (fun hs=>?_),by show nx≤nx+1;omega,rfl,rfl,fun hk=>absurd rfl hk⟩
     subst hs
     exact zmy (but:=0) (zia (Int.le_refl 0) h.good ht) (znt h.good)
end Go.Proofs.YtmmdlgjmplddiaaGreat
namespace Go.Proofs.YtmmdlgjmplddiaaGreat
open Go.RowKit
attribute [local go_sem ↓] Go.wp_at_zero Go.wp_at_succ
def zkU (cs:Array Value):Prop:=∀ (j:Nat) (s:ByteArray),cs[j]?≠some (.string s)
theorem zlf {w:World}{b b' o:Nat}{cs:Array Value}{t:TypeId}{fr:Nat × Nat}{s:ByteArray} (hb:w.heap[b]?=some (.cells cs t fr)) (hn:zkU cs) (hc:w.cell? ⟨b',o,none⟩=some (.string s)):b'≠b:=by
 intro e
 subst e
 simp [World.cell?,hb] at hc
 exact hn o s hc
theorem zaV.far {w w':World}{a:Option Addr}{vs:List V}{b:Nat}{cs:Array Value}{t:TypeId}{fr:Nat × Nat} (h:zaV w a vs) (hb:w.heap[b]?=some (.cells cs t fr)) (hn:zkU cs) (hk:∀ k,k≠b→k<w.heap.size→w'.heap[k]?=w.heap[k]?):zaV w' a vs:=by
 intro i v hv
 obtain ⟨b',o,e,c0,c1,c2⟩:=h i v hv
 have hne:=zlf hb hn c2
 have key:∀ p,w'.cell? ⟨b',p,none⟩=w.cell? ⟨b',p,none⟩:=fun p=>World.cell?_of_block (w:=w) (hk b' hne (World.block_lt_of_cell? w ⟨b',_,none⟩ c2))
 exact ⟨b',o,e,(key _).trans c0,(key _).trans c1,(key _).trans c2⟩
theorem zaH.far {w w':World}{a:Option Addr}{fs:List F}{b:Nat}{cs:Array Value}{t:TypeId}{fr:Nat × Nat} (h:zaH w a fs) (hb:w.heap[b]?=some (.cells cs t fr)) (hn:zkU cs) (hk:∀ k,k≠b→k<w.heap.size→w'.heap[k]?=w.heap[k]?):zaH w' a fs:=by
 intro i f hf
 obtain ⟨b',o,e,c0,c1,sa,sc,c2,hv⟩:=h i f hf
 have hne:=zlf hb hn c1
 have key:∀ p,w'.cell? ⟨b',p,none⟩=w.cell? ⟨b',p,none⟩:=fun p=>World.cell?_of_block (w:=w) (hk b' hne (World.block_lt_of_cell? w ⟨b',_,none⟩ c1))
 exact ⟨b',o,e,(key _).trans c0,(key _).trans c1,sa,sc,(key _).trans c2,hv.far hb hn hk⟩
theorem zjA (a:Option Addr) (n c:Nat) (nx cp:Int) (sg:Bool):zkU #[.slice a n c,.int .i64 nx,.int .i64 cp,.bool sg]:=by
 intro j s h
 rcases j with _ | _ | _ | _ | j <;> simp at h
theorem zpc (a:Option Addr) (n c:Nat) (i:Int):zkU #[.slice a n c,.int .i64 i]:=by
 intro j s h
 rcases j with _ | _ | j <;> simp at h
theorem zaH.rsN {g:Nat}{w w':World}{a:Option Addr}{fs:List F} (h:zaH w a fs) (hr:Rs g w w') (hg:Rdr w g):zaH w' a fs:=by
 obtain ⟨_,_,_,_,h1,_⟩:=hg
 exact h.far h1 (zpc _ _ _ _) (fun k hk hl=>hr.1.block k hl (fun e=>hk (by injection e with e;exact e.symm)))
def TB (w:World) (d:Nat) (a:Option Addr) (n c:Nat) (nx cp:Int) (sg:Bool):Prop:=w.heap[d]?=some (.cells #[.slice a n c,.int .i64 nx,.int .i64 cp,.bool sg] 26 (0,0))
theorem TB.facts {w:World}{b:Nat}{a:Option Addr}{n c:Nat}{nx cp:Int}{sg:Bool} (h:TB w b a n c nx cp sg):(w.cell? ⟨b,0,none⟩=some (.slice a n c)∧w.cell? ⟨b,1,none⟩=some (.int .i64 nx)∧w.cell? ⟨b,2,none⟩=some (.int .i64 cp)∧w.cell? ⟨b,3,none⟩=some (.bool sg))∧(∀ j,w.frozen? ⟨b,j,none⟩=false)∧b<w.heap.size:=by
 unfold TB at h
 refine ⟨⟨?_,?_,?_,?_⟩,fun j=>?_,zab h⟩ <;> simp [World.cell?,World.frozen?,h]
def stV (a:Option Addr) (n c:Nat) (nx cp:Int) (sg:Bool):Value:=.agg #[.slice a n c,.int .i64 nx,.int .i64 cp,.bool sg]
theorem zoE {w:World}{base:Nat}{a:Option Addr}{c:Nat}{Y:List FcV} (h:FsO w base a c Y) {i:Nat}{x:FcV} (hi:Y[i]?=some x) :
  ∃ k,a=some ⟨k,0,none⟩∧k<w.heap.size∧w.cell? ⟨k,i * 3,none⟩=some (.int .i64 x.1.tag)∧w.cell? ⟨k,i * 3+1,none⟩=some (.string x.1.cls)∧w.cell? ⟨k,i * 3+2,none⟩=some x.2:=by
 have key:=fun j u (hj:(fxcells x)[j]?=some u)=>zam h.1 (za5 (cells:=fxcells) (m:=3) (fun _=>rfl) Y i x j u hi hj)
 obtain ⟨k,rfl,_,h0,_⟩:=key 0 _ rfl
 obtain ⟨k1,e1,_,h1,_⟩:=key 1 _ rfl
 obtain ⟨k2,e2,_,h2,_⟩:=key 2 _ rfl
 cases e1
 cases e2
 exact ⟨k,rfl,World.block_lt_of_cell? w ⟨k,_,none⟩ h0,h0,h1,h2⟩
def FOk (fs:List F):Prop:=∀ f∈fs,GCl f.cls∧f.slots.length≤3∧∀ v∈f.slots,VSm v
theorem zhw {vs:List V} (h3:vs.length≤3) (hv:∀ v∈vs,VSm v):zbn vs=true:=by
 simp only [zbn,Bool.and_eq_true,decide_eq_true_eq,List.all_eq_true]
 exact ⟨by omega,fun v h=>(hv v h).2.2.2.2⟩
theorem zmu {s:ByteArray} (h:GCl s):gSym s.data.toList=true:=by
 have:=h.2
 simp only [gCls,Bool.and_eq_true] at this
 exact this.1
theorem znB {fs:List F}{nx cp:Int}{sg:Bool}{cls:ByteArray}{vs:List V} (h:FOk fs) (hc:GCl cls) (h3:vs.length≤3) (hv:∀ v∈vs,VSm v):FOk (asOk fs nx cp sg cls vs).fs∧(asOk fs nx cp sg cls vs).fs.length≤fs.length+1∧(asOk fs nx cp sg cls vs).cp=cp∧(asOk fs nx cp sg cls vs).sg=sg:=by
 unfold asOk
 split
 ·exact ⟨h,by simp,rfl,rfl⟩
 ·split
  ·exact ⟨h,by simp,rfl,rfl⟩
  ·split
   ·exact ⟨h,by simp,rfl,rfl⟩
   ·refine ⟨fun f hf=>?_,by simp,rfl,rfl⟩
    rcases List.mem_append.1 hf with hf | hf
    ·exact h f hf
    ·simp at hf
     subst hf
     exact ⟨hc,h3,hv⟩
theorem zoe {fs:List F}{nx cp:Int}{sg:Bool}{cls:ByteArray}{vs:List V} (h:VS fs nx cp sg) (h2:gSym cls.data.toList=true) (h3:zbn vs=true):VS (asOk fs nx cp sg cls vs).fs (asOk fs nx cp sg cls vs).nx cp sg:=by
 have hv:=VS.iff.2 h
 have ht:=zlV cls vs h
 rw [zla hv h2 h3] at ht
 rcases ht with ht | ⟨h1,_,h4,h5,_⟩
 ·exfalso
  unfold asOk at ht
  split at ht
  ·simp at ht
  ·split at ht
   ·simp at ht
   ·split at ht <;> simp at ht
 ·rw [h4,h5] at h1
  exact h1
theorem ziv {fs:List F} (h:FOk fs):∀ f∈fs,Sized f:=fun f hf=>⟨by have:=(h f hf).1.1;unfold maxLen;omega,by have:=(h f hf).2.1;omega,fun v hv=>by have:=((h f hf).2.2 v hv).1;unfold maxLen;omega⟩
theorem zid {v:World}{d:Nat}{x0 x1 x2 x3:Value} (k:Nat) (hk:k≠d):((((v.drew.setCell ⟨d,0,none⟩ x0).setCell ⟨d,1,none⟩ x1).setCell ⟨d,2,none⟩ x2).setCell ⟨d,3,none⟩ x3).heap[k]?=v.heap[k]?:=by
 have e1:∀ (u:World) (j:Nat) (x:Value),(u.setCell ⟨d,j,none⟩ x).heap[k]?=u.heap[k]?:=fun u j x=>Below.heap_setCell _ _ _ _ hk
 rw [e1,e1,e1,e1]
 rfl
theorem Rsfin {g:Nat}{w v:World}{x0 x1 x2 x3:Value} (h:Rs g w v) (hg:g<w.heap.size):Rs g w ((((v.drew.setCell ⟨w.heap.size,0,none⟩ x0).setCell ⟨w.heap.size,1,none⟩ x1).setCell ⟨w.heap.size,2,none⟩ x2).setCell ⟨w.heap.size,3,none⟩ x3):=
 ((((h.bel (Below.refl _ _).drew).setOwn (Nat.le_refl _) hg).setOwn (Nat.le_refl _) hg).setOwn (Nat.le_refl _) hg).setOwn (Nat.le_refl _) hg
theorem zng {P:World→Prop}{w:World}{b:Nat}{a:Option Addr}{n c:Nat}{nx cp v:Int}{sg:Bool} (h0:TB w b a n c nx cp sg) (h:∀ wt,TB wt b a n c v cp sg→Turned w wt b→P wt):P (w.setCell ⟨b,1,none⟩ (.int .i64 v)):=
 h _ (by have:=zaf (i:=1) h0 (.int .i64 v);simpa [TB] using this) (Turned.setCells [.int .i64 v] 1 w b)
theorem zmY {P:World→Prop}{w:World}{b:Nat}{a:Option Addr}{n c:Nat}{nx cp v:Int}{sg:Bool} (h0:TB w b a n c nx cp sg) (h:∀ wt,TB wt b a n c nx v sg→Turned w wt b→P wt):P (w.setCell ⟨b,2,none⟩ (.int .i64 v)):=
 h _ (by have:=zaf (i:=2) h0 (.int .i64 v);simpa [TB] using this) (Turned.setCells [.int .i64 v] 2 w b)
theorem zo1 {w:World}{b:Nat}{a a':Option Addr}{n c n' c':Nat}{nx cp nx' cp':Int}{sg sg':Bool} (h0:TB w b a n c nx cp sg):TB ((((w.setCell ⟨b,0,none⟩ (.slice a' n' c')).setCell ⟨b,1,none⟩ (.int .i64 nx')).setCell ⟨b,2,none⟩ (.int .i64 cp')).setCell ⟨b,3,none⟩ (.bool sg')) b a' n' c' nx' cp' sg'∧Turned w ((((w.setCell ⟨b,0,none⟩ (.slice a' n' c')).setCell ⟨b,1,none⟩ (.int .i64 nx')).setCell ⟨b,2,none⟩ (.int .i64 cp')).setCell ⟨b,3,none⟩ (.bool sg')) b:=by
 have h1:=zaf (i:=0) h0 (.slice a' n' c')
 have h2:=zaf (i:=1) h1 (.int .i64 nx')
 have h3:=zaf (i:=2) h2 (.int .i64 cp')
 have h4:=zaf (i:=3) h3 (.bool sg')
 exact ⟨by simpa [TB] using h4,Turned.setCells [.slice a' n' c',.int .i64 nx',.int .i64 cp',.bool sg'] 0 w b⟩
theorem zix (v0 v1 v2 v3 v4 v5:Value) (w:World):(Instr.field 132 (.agg #[v0,v1,v2,v3,v4,v5]) 0).run Tryz.prog w=.ok (.agg #[v0,v1,v2,v3]) w:=by kernel_rfl
theorem znA {P:Program}{op:Oper}{a:Act}{w:World}{K:Act→World→Prop}{Q:Exit→Act→World→Prop} (ty:TypeId) (x:Operand) (i:Nat) (ho:op.op=.field ty x i) (u v:Value) (hx:a.eval x=u)
  (hv:(Instr.field ty u i).run P w=.ok v w) (h:K (a.put op.dst v) w):op.wp P a w K Q:=by
 unfold Oper.wp execOp
 simp only [ho,hx,hv,Result.andThen_ok,Sem.run_bind,Sem.run_pure]
 exact h
theorem zhC {P:Program}{ops:Array Oper}{rest:List Oper}{op:Oper}{a:Act}{w:World}{Q:Exit→Act→World→Prop} (hgd:op.guard=none) (ty:TypeId) (x:Operand) (i:Nat) (ho:op.op=.field ty x i) (u v:Value) (hx:a.eval x=u)
  (hv:(Instr.field ty u i).run P w=.ok v w) (h:wpList P ops Q rest (a.put op.dst v) w):wpList P ops Q (op :: rest) a w:=
 wpList_plain hgd fun _ hK=>znA ty x i ho u v hx hv (hK _ _ h)
theorem MkO.turned {b:Nat}{w w':World} (h:Turned w w' b):MkO (some b) w w':=⟨h.below (Nat.zero_le _),fun k _ hne=>h.block k (fun e=>hne (by rw [e]))⟩
theorem MkO.keep {b:Nat}{w w':World} (h:MkO (some b) w w'):∀ k,k≠b→k<w.heap.size→w'.heap[k]?=w.heap[k]?:=fun k hk hl=>h.block k hl (fun e=>hk (by injection e with e;exact e.symm))
theorem Rs.mko {g b:Nat}{w u v:World} (h:Rs g w u) (hm:MkO (some b) u v) (hb:w.heap.size≤b) (hg:g<w.heap.size):Rs g w v:=
 ⟨⟨h.1.rest.trans hm.rest,fun k hk hne=>(hm.block k (Nat.lt_of_lt_of_le hk h.1.rest.size) (fun e=>by injection e with e;omega)).trans (h.1.block k hk hne)⟩,h.2.old (hm.below (by have:=h.1.rest.size;omega) (fun k hk=>by injection hk with hk;omega))⟩
set_option maxRecDepth 100000 in
set_option maxHeartbeats 6400000 in
theorem ziH (g most:Nat) (w:World) (h:Rdr w g) (hm:most≤12):Calls Tryz.prog 20 #[.pointer (some ⟨g,0,none⟩),.int .i64 (most:Int)] w fun e w'=>∃ a c M fa fc fs nx cp sg,e=.returned (.tuple #[.slice a (List.length M) c,stV fa (List.length fs) fc nx cp sg])∧(1≤M.length∧M.length≤8∧MOk M)∧RO w' w.heap.size a c M∧(zaH w' fa fs∧fs.length≤fc∧zbs 0 fs=true∧fs.length≤most∧FOk fs)∧Rs g w w':=by
 have H:=hidR h
 have hlt:=h.lt
 clear h
 have HA:=hidR (fun o=>(Below.refl _ _).alloc (Nat.le_refl _) o:∀ o,Below w.heap.size w (w.alloc o))
 have HRa:=hidR (fun o=>H.out.bel (HA.out o))
 go_enter Tryz.func20,Tryz.ntmps20
 go_wp2_with fail
 refine (zfC g 3 _ (HRa.out _) (by omega) (by omega)).mono ?_
 rintro e w1 ⟨a,c,M,rfl,hM1,hM8,hMK,hRO,hr1⟩
 have HMK:=hidR hMK
 have SB1:=hidR (show TB w1 w.heap.size none 0 0 0 0 false from zaC hr1 (heap_alloc_new _ _) (by omega))
 have MO1:=hidR (hRO.lower (base':=w.heap.size) (by simp))
 have R1:=hidR ((Rs.of H.out (HA.out _)).trans hr1)
 have hs1:w.heap.size<w1.heap.size:=zab SB1.out
 clear hRO hr1 HA HRa H hMK
 go_wp2_with fail
 refine (zbb g w1 R1.out.2).mono ?_
 rintro e w2 ⟨n2,hn2,rfl,hr2⟩
 have SB2:=hidR (show TB w2 w.heap.size none 0 0 0 0 false from zaC hr2 SB1.out (by omega))
 have MO2:=hidR (MO1.out.rs hr2 hlt)
 have R2:=hidR (R1.out.trans hr2)
 have hs2:=hr2.1.rest.size
 clear hr2 SB1 MO1 R1
 go_upto_region 3 with fail
 refine zaj ?_
 intro w3 hW3 hsb3
 obtain ⟨sg,hsg⟩:∃ sg,sg=((n2:Int) % 2==1):=⟨_,rfl⟩
 rw [← hsg] at hsb3
 have S3:=hidR (show TB w3 (w2.heap.size) none 0 0 1 12 sg from hsb3)
 have SB3:=hidR (show TB w3 w.heap.size none 0 0 0 0 false from (hW3.block _ (by omega)).trans SB2.out)
 have MO3:=hidR (MO2.out.bel hW3)
 have R3:=hidR (R2.out.bel hW3)
 have hs3:=hW3.size
 clear hW3 hsb3 SB2 MO2 R2 hsg
 go_wp2_with fail
 refine (ziU g w.heap.size most a c M w3 R3.out.2 MO3.out HMK.out hM1 hM8 hm).mono ?_
 rintro e w4 ⟨xa,xc,Fs,rfl,hFm,hFO,hr4⟩
 have S4:=hidR (show TB w4 (w2.heap.size) none 0 0 1 12 sg from zaC hr4 S3.out (by omega))
 have SB4:=hidR (show TB w4 w.heap.size none 0 0 0 0 false from zaC hr4 SB3.out (by omega))
 have MO4:=hidR (MO3.out.rs hr4 hlt)
 have R4:=hidR (R3.out.trans hr4)
 have FO4:=hidR hFO
 have hs4:=hr4.1.rest.size
 have hsb3l:(w2.heap.size)<w3.heap.size:=zab S3.out
 clear hr4 S3 SB3 MO3 R3 hFO
 go_wp2_with fail
 go_loopw [23] (fun iv wr=>∃ (i:Nat) (fa:Option Addr) (fc:Nat) (fs:List F) (nx:Int),iv=.int .i64 (i:Int)∧i≤Fs.length∧TB wr (w2.heap.size) fa fs.length fc nx 12 sg∧zaH wr fa fs∧(fs.length≤fc∧VS fs nx 12 sg∧fs.length≤i∧FOk fs)∧MkO (some (w2.heap.size)) w4 wr) (fun iv _=>(20 - intOf iv).toNat)
 case atStart=>exact ⟨0,none,0,[],1,rfl,by omega,S4.out,fun i f hf=>by simp at hf,⟨by simp,VS.iff.1 (by cases sg <;> rfl),by simp,fun f hf=>by simp at hf⟩,MkO.refl _ _⟩
 case round=>
  obtain ⟨i,fa,fc,fs,nx,rfl,hiF,hT,hFA,⟨hfc,hVS,hfi,hfok⟩,hMk⟩:=hrel
  have T0:=hidR hT
  have FA:=hidR hFA
  have HV:=hidR (And.intro hVS hfok)
  have MK:=hidR hMk
  have hsr:=hMk.rest.size
  clear hT hFA hVS hfok hMk
  have Rr:=hidR (R4.out.mko MK.out (by omega) hlt)
  have SBr:=hidR (show TB wr w.heap.size none 0 0 0 0 false from (MK.out.keep _ (by omega) (zab SB4.out)).trans SB4.out)
  have MOr:=hidR (show RO wr w.heap.size a c M from MO4.out.same (Same.kept (d:=(w2.heap.size)) MK.out.keep S4.out (by decide)))
  by_cases hi:i<Fs.length
  ·have FOr:=hidR (show FsO wr w3.heap.size xa xc Fs from FO4.out.same (T:=[42,109]) (Same.kept (d:=(w2.heap.size)) MK.out.keep S4.out (by decide)) (by decide) (by decide))
   obtain ⟨x,hxi⟩:∃ x,Fs[i]?=some x:=⟨Fs[i],by simp [hi]⟩
   obtain ⟨xk,rfl,hxk,c0,c1,c2⟩:=zoE FOr.out hxi
   obtain ⟨⟨⟨sa,sc,hx2⟩,hvown⟩,hcl,hx3,hxs⟩:=FOr.out.2 x (List.mem_of_getElem? hxi)
   rw [hx2] at c2 hvown
   have VA:=hidR (zaV.owns hvown)
   have HX:=hidR (And.intro hcl hxs)
   have hiI:(i:Int)<(Fs.length:Int):=by omega
   have hi0:(0:Int)≤(i:Int):=by omega
   clear hvown hx2 hxi hcl hxs
   go_upto_region 6 with fail
   refine zaj ?_
   intro w5 hW5 hfb
   have hs5:=hW5.size
   have T5:=hidR (show TB w5 (w2.heap.size) fa fs.length fc nx 12 sg from (hW5.block _ (zab T0.out)).trans T0.out)
   obtain ⟨⟨f0,f1,f2,f3⟩,z,hsb5⟩:=T5.out.facts
   obtain ⟨d0,d1,d2⟩:w5.cell? ⟨wr.heap.size,0,none⟩=some (.int .i64 x.1.tag)∧w5.cell? ⟨wr.heap.size,1,none⟩=some (.string x.1.cls)∧w5.cell? ⟨wr.heap.size,2,none⟩=some (.slice sa x.1.slots.length sc):=by refine ⟨?_,?_,?_⟩ <;> simp [World.cell?,hfb]
   have hfbl:wr.heap.size<w5.heap.size:=zab hfb
   have B5:=hidR hW5
   clear hW5 hfb c0 c1 c2 z
   go_wp2_with fail
   refine (zkG fa fc fs nx 12 sg x.1.cls sa sc x.1.slots w5 (FA.out.below B5.out) (VA.out.below B5.out) hfc (by omega) (ziv HV.out.2) (by have:=HX.out.1.1;unfold maxLen;omega) (by omega) (fun v hv=>by have:=(HX.out.2 v hv).1;unfold maxLen;omega) (VS.iff.2 HV.out.1) (zmu HX.out.1) (zhw hx3 HX.out.2)).mono ?_
   have HQ:=hidR (And.intro (znB (nx:=nx) (cp:=12) (sg:=sg) HV.out.2 HX.out.1 hx3 HX.out.2) (zoe HV.out.1 (zmu HX.out.1) (zhw hx3 HX.out.2)))
   obtain ⟨r,hr⟩:∃ r,r=asOk fs nx 12 sg x.1.cls x.1.slots:=⟨_,rfl⟩
   rw [← hr] at HQ ⊢
   clear hr
   rintro e w6 ⟨⟨a6,c6,rfl,hF6,hc6⟩,hb6⟩
   have FA6:=hidR hF6
   have B6:=hidR hb6
   have T6:=hidR (show TB w6 (w2.heap.size) fa fs.length fc nx 12 sg from (hb6.block _ hsb5).trans T5.out)
   clear hF6 hb6 f0 f1 f2 f3 d0 d1 d2
   obtain ⟨⟨f0,f1,f2,f3⟩,z,hsb6⟩:=T6.out.facts
   have z0:=z 0
   have z1:=z 1
   have z2:=z 2
   have z3:=z 3
   clear z
   unfold C6.val
   go_wp2_with (first | (refine zhC (by rfl) 132 (.tmp 32) 0 (by rfl) _ _ (by rfl) (zix _ _ _ _ _ _ _) ?_) | fail)
   go_roundw
   case rel=>
    obtain ⟨⟨q1,q2,q3,q4⟩,q5⟩:=HQ.out
    obtain ⟨hT7,ht7⟩:=zo1 (a':=a6) (n':=r.fs.length) (c':=c6) (nx':=r.nx) (cp':=r.cp) (sg':=r.sg) T6.out
    rw [q3,q4] at hT7
    rw [q3,q4] at ht7 ⊢
    exact ⟨i+1,a6,c6,r.fs,r.nx,by go_num,by omega,hT7,FA6.out.far T6.out (zjA _ _ _ _ _ _) (fun k hk _=>ht7.block k hk),⟨hc6,q5,by omega,q1⟩,((MK.out.trans (MkO.of_below B5.out)).trans (MkO.of_below B6.out)).trans (MkO.turned ht7)⟩
   case measure=>(simp [intOf];omega)
  ·have hi':¬ (i:Int)<(Fs.length:Int):=by omega
   go_wp2_with fail
   refine (zbb g wr Rr.out.2).mono ?_
   rintro e w5 ⟨n5,hn5,rfl,hr5⟩
   have S5:=hidR (show TB w5 (w2.heap.size) fa fs.length fc nx 12 sg from zaC hr5 T0.out (by omega))
   have SB5:=hidR (show TB w5 w.heap.size none 0 0 0 0 false from zaC hr5 SBr.out (by omega))
   have MO5:=hidR (MOr.out.rs hr5 hlt)
   have FA5:=hidR (FA.out.rsN hr5 Rr.out.2)
   have R5:=hidR (Rr.out.trans hr5)
   have hs5:=hr5.1.rest.size
   clear hr5 T0 SBr MOr FA Rr S4 SB4 MO4 R4 FO4 MK
   go_upto_if 39 with fail
   go_cut [] (fun wx=>∃ nx' cp',TB wx (w2.heap.size) fa fs.length fc nx' cp' sg∧MkO (some (w2.heap.size)) w5 wx)
   case first=>
    obtain ⟨⟨f0,f1,f2,f3⟩,z,hb5⟩:=S5.out.facts
    have z2:=z 2
    clear z
    cases h16:((n5:Int) % 16==0)
    ·go_wp2_with fail
     go_meet
     exact ⟨_,_,S5.out,MkO.refl _ _⟩
    ·go_wp2_with fail
     refine zmY S5.out ?_
     intro wt hTt hTu
     go_meet
     exact ⟨_,_,hTt,MkO.turned hTu⟩
   case rest=>
    obtain ⟨nx1,cp1,hT1,hM1'⟩:=hcut
    obtain ⟨w6,rfl⟩:∃ v,v=wc:=⟨wc,rfl⟩
    have S6:=hidR hT1
    have MK6:=hidR hM1'
    clear hT1 hM1'
    go_upto_if 46 with fail
    go_cut [] (fun wx=>∃ nx' cp',TB wx (w2.heap.size) fa fs.length fc nx' cp' sg∧MkO (some (w2.heap.size)) w5 wx)
    case first=>
     obtain ⟨⟨f0,f1,f2,f3⟩,z,hb5⟩:=S6.out.facts
     have z1:=z 1
     clear z
     cases h32:((n5:Int) % 32==1)
     ·go_wp2_with fail
      go_meet
      exact ⟨_,_,S6.out,MK6.out⟩
     ·go_wp2_with fail
      refine zng S6.out ?_
      intro wt hTt hTu
      go_meet
      exact ⟨_,_,hTt,MK6.out.trans (MkO.turned hTu)⟩
    case rest=>
     obtain ⟨nx2,cp2,hT2,hM2⟩:=hcut
     obtain ⟨w7,rfl⟩:∃ v,v=wc:=⟨wc,rfl⟩
     have SB7:=hidR (show TB w7 w.heap.size none 0 0 0 0 false from (hM2.keep _ (by omega) (zab SB5.out)).trans SB5.out)
     have MO7:=hidR (show RO w7 w.heap.size a c M from MO5.out.same (Same.kept (d:=(w2.heap.size)) hM2.keep S5.out (by decide)))
     have FA7:=hidR (FA5.out.far S5.out (zjA _ _ _ _ _ _) hM2.keep)
     have R7:=hidR (R5.out.mko hM2 (by omega) hlt)
     obtain ⟨⟨f0,f1,f2,f3⟩,_,hbt⟩:=hT2.facts
     obtain ⟨⟨e0,e1,e2,e3⟩,z',hbr⟩:=SB7.out.facts
     have y0:=z' 0
     have y1:=z' 1
     have y2:=z' 2
     have y3:=z' 3
     clear z' hT2 hM2 S5 SB5 MO5 FA5 R5 S6 MK6
     go_wp2_with fail
     go_region
     go_wp2_with fail
     refine bodyPost_ret (v:=.tuple #[.slice a M.length c,stV fa fs.length fc nx2 cp2 sg]) (by simp [results,Tryz.results20,go_sem,e0,e1,e2,e3,stV]) rfl ⟨a,c,M,fa,fc,fs,nx2,cp2,sg,rfl,⟨hM1,hM8,HMK.out⟩,?_,⟨?_,hfc,HV.out.1.good,by omega,HV.out.2⟩,Rsfin R7.out hlt⟩
     ·exact MO7.out.same (Same.kept (d:=w.heap.size) (fun k hk _=>zid k hk) SB7.out (by decide))
     ·exact FA7.out.far SB7.out (zjA _ _ _ _ _ _) (fun k hk _=>zid k hk)
end Go.Proofs.YtmmdlgjmplddiaaGreat
namespace Go.Proofs.YtmmdlgjmplddiaaGreat
open Go.RowKit
attribute [local go_sem ↓] Go.wp_at_zero Go.wp_at_succ
theorem zdP {α β:Type}{R:World→List Value→β→Prop}{cells:α→List Value}{f:α→β}{m:Nat} (hm:∀ x,(cells x).length=m) (h0:0<m) {w:World}{base:Nat}{t:TypeId}{a:Option Addr}{n c:Nat}{L:List α} (h:w.ownsRow base t m (.slice a n c) n (L.flatMap cells)) (hR:∀ x∈L,R w (cells x) (f x)):zaD R none t m w a (L.map f):=by
 intro i y hy
 rw [List.getElem?_map] at hy
 obtain ⟨x,hx,rfl⟩:=Option.map_eq_some_iff.1 hy
 have key:=fun j u (hj:(cells x)[j]?=some u)=>zam h (za5 (cells:=cells) (m:=m) hm L i x j u hx hj)
 obtain ⟨k,rfl,_⟩:=key 0 ((cells x)[0]'(by rw [hm];exact h0)) (by simp)
 refine ⟨k,0,cells x,rfl,Qb.bare _ _ _,hm x,fun j v hj=>?_,hR x (List.mem_of_getElem? hx)⟩
 obtain ⟨k',e,_,hc,_⟩:=key j v hj
 cases e
 rw [Nat.zero_add]
 exact hc
theorem PO.pts {w:World}{base:Nat}{a:Option Addr}{c:Nat}{L:List PtV} (h:PO w base a c L):zcf none w a (L.map Prod.fst):=by
 refine zdP (cells:=pcells) (fun _=>rfl) (by decide) h.1 (fun x hx=>?_)
 obtain ⟨⟨ta,tc,e⟩,ho,_⟩:=h.2 x hx
 rw [e] at ho
 have ht:zcl none w ta x.1.terms:=by
  have:=zdP (R:=Tm.R) (cells:=za2) (f:=id) (fun _=>rfl) (by decide) ho (fun _ _=>rfl)
  simpa using this
 exact ⟨ta,tc,by rw [pcells,e],ht,zdK ho⟩
theorem AcO.acs {w:World}{base:Nat}{a:Option Addr}{c:Nat}{Y:List AcV} (h:AcO w base a c Y):zcO none w a (Y.map Prod.fst):=by
 refine zdP (cells:=acells) (fun _=>rfl) (by decide) h.1 (fun x hx=>?_)
 obtain ⟨⟨ta,tc,e⟩,ho⟩:=h.2 x hx
 rw [e] at ho
 exact ⟨ta,tc,by rw [acells,e],zas.owns ho⟩
theorem RO.rus {w:World}{base:Nat}{a:Option Addr}{c:Nat}{M:List RuX} (h:RO w base a c M):zbR none w a (M.map RuX.ru):=by
 refine zdP (cells:=rcells) (fun _=>rfl) (by decide) h.1 (fun x hx=>?_)
 obtain ⟨⟨pa,pc,e1,h1⟩,⟨ea,ec,e2,h2,_⟩,aa,ac,e3,h3⟩:=h.2 x hx
 have he:zbw none w ea x.es:=by
  have:=zdP (R:=Ex.R) (cells:=zba) (f:=id) (fun _=>rfl) (by decide) h2 (fun _ _=>rfl)
  simpa using this
 exact ⟨pa,pc,ea,ec,aa,ac,by unfold rcells;rw [e1,e2,e3];simp [RuX.ru],h1.pts,he,h3.acs,zdK h2⟩
theorem RO.cap {w:World}{base:Nat}{a:Option Addr}{c:Nat}{M:List RuX} (h:RO w base a c M):M.length≤c:=zdK h.1
theorem zj1 {s:ByteArray} (h:gSym s.data.toList=true):s.size≤1048576:=by
 simp only [gSym,Bool.and_eq_true,decide_eq_true_eq] at h
 have:s.data.toList.length=s.size:=Array.length_toList
 omega
theorem zfw {s:ByteArray} (h:isE s=true):s.size≤1048576:=by
 rw [zfR h]
 exact Nat.zero_le _
theorem zlM {a:Ac} (h:zay a=true):a.cls.size≤1048576:=by
 unfold zay at h
 split at h
 ·simp only [gCls,Bool.and_eq_true] at h
  exact zj1 h.1.1
 ·split at h
  ·simp only [Bool.and_eq_true] at h
   exact zfw h.1.1
  ·split at h
   ·simp only [Bool.and_eq_true] at h
    exact zfw h.1
   ·split at h
    ·simp only [Bool.and_eq_true] at h
     exact zfw h.1
    ·cases h
theorem zcP.le {K:List ByteArray}{pos:Nat}:∀ {us:List Ac}{n:Nat}{ys:List Ex},zcP K pos n ys us→∀ a∈us,Ac.le 1048576 a
 | [],n,ys,h=>by simp
 | x :: r,n,ys,h=>by
  obtain ⟨A,C,rfl,hA,hx,hC⟩:=h
  intro a ha
  rcases List.mem_cons.1 ha with rfl | ha
  ·exact ⟨zlM hx.1,by omega⟩
  ·exact zcP.le hC a ha
structure RsOk (rs:List Ru):Prop where
 len:1≤rs.length∧rs.length≤8
 chk:chk rs=(0,0,0)
 le:zbu Ru.le 1048576 rs
 ops:∀ x∈rs,zdF x.exprs
 vok:∀ r∈rs,∀ p∈r.pats,∀ t∈p.terms,VOk t.val
 sal:∀ r∈rs, -9223372036854775808≤r.sal∧r.sal≤9223372036854775807
theorem znL {v:V} (h:VSm v):VOk v:=by
 obtain ⟨h1,⟨h2,h3⟩,h4,h5,_⟩:=h
 exact ⟨zcF h2 h3,zcF h4 h5,by unfold maxLen;omega⟩
theorem zpI {w:World}{base:Nat}{a:Option Addr}{c:Nat}{M:List RuX} (h:RO w base a c M) (hM:MOk M) (h1:1≤M.length) (h8:M.length≤8):RsOk (M.map RuX.ru):=by
 have hpt:∀ x∈M,∀ y∈x.pats,PtX w base y:=fun x hx y hy=>by
  obtain ⟨⟨pa,pc,e1,h1⟩,_⟩:=h.2 x hx
  exact h1.2 y hy
 have hex:∀ x∈M,∀ e∈x.es,ExSm e:=fun x hx=>by
  obtain ⟨_,⟨_,_,_,_,h3⟩,_⟩:=h.2 x hx
  exact h3
 have hd:∀ x∈M,∃ k,DRu k x.ru:=fun x hx=>by
  obtain ⟨i,hi⟩:=List.mem_iff_getElem?.1 hx
  exact ⟨i,(hM i x hi).1⟩
 refine ⟨by simpa using And.intro h1 h8,zmd (fun i r hr=>?_) (by simp;omega),⟨by simp;omega,fun r hr=>?_⟩,fun r hr e he=>?_,fun r hr p hp t ht=>?_,fun r hr=>?_⟩
 ·rw [List.getElem?_map] at hr
  obtain ⟨x,hx,rfl⟩:=Option.map_eq_some_iff.1 hr
  exact (hM i x hx).1
 ·obtain ⟨x,hx,rfl⟩:=List.mem_map.1 hr
  obtain ⟨k,hn,K,pos,hdr⟩:=hd x hx
  refine ⟨?_,⟨by have:=hdr.pats;omega,fun p hp=>?_⟩,⟨by have:=hdr.exprs;omega,fun e he=>?_⟩,by have:=hdr.acts;omega,fun a ha=>?_⟩
  ·rw [hn]
   exact Nat.le_trans (show (nmK k).size≤2 from Nat.le_refl 2) (by decide)
  ·obtain ⟨y,hy,rfl⟩:=List.mem_map.1 hp
   obtain ⟨_,_,hc,ht3,hts⟩:=hpt x hx y hy
   exact ⟨by have:=hc.1;omega,by omega,fun t ht=>⟨by have:=(hts t ht).1;omega,by have:=(hts t ht).2.1.1;omega⟩⟩
  ·have:=hex x hx e he
   exact ⟨by have:=this.1;omega,by have:=this.2.1.1;omega⟩
  ·exact hdr.trees.le a ha
 ·obtain ⟨x,hx,rfl⟩:=List.mem_map.1 hr
  exact ⟨(hex x hx e he).2.2.1,(hex x hx e he).2.2.2⟩
 ·obtain ⟨x,hx,rfl⟩:=List.mem_map.1 hr
  obtain ⟨y,hy,rfl⟩:=List.mem_map.1 hp
  obtain ⟨_,_,_,_,hts⟩:=hpt x hx y hy
  exact znL (hts t ht).2.1
 ·obtain ⟨x,hx,rfl⟩:=List.mem_map.1 hr
  obtain ⟨i,hi⟩:=List.mem_iff_getElem?.1 hx
  exact (hM i x hi).2
structure FsOk (most:Nat) (fs:List F):Prop where
 len:fs.length≤most
 good:zaS fs=true
 sized:∀ f∈fs,Sized f
 read:∀ f∈fs,(Lit.int .i64 f.tag).wf=true∧∀ v∈f.slots,VOk v
theorem zfb:∀ {fs:List F}{last:Int},zbs last fs=true→∀ f∈fs,last<f.tag∧f.tag≤1000000
 | [],_,_,f,hf=>by simp at hf
 | g :: r,last,h,f,hf=>by
  simp only [zbs,okF,Bool.and_eq_true,decide_eq_true_eq] at h
  rcases List.mem_cons.1 hf with rfl | hf
  ·exact ⟨h.1.1,h.1.2.1⟩
  ·have:=zfb h.2 f hf
   exact ⟨by omega,this.2⟩
theorem zpy {most:Nat}{fs:List F} (hl:fs.length≤most) (hm:most≤12) (hg:zbs 0 fs=true) (hf:FOk fs):FsOk most fs:=by
 refine ⟨hl,?_,ziv hf,fun f h=>⟨?_,fun v hv=>znL ((hf f h).2.2 v hv)⟩⟩
 ·simp only [zaS,Bool.and_eq_true,decide_eq_true_eq]
  exact ⟨by omega,hg⟩
 ·have:=zfb hg f h
  exact zcF (by omega) (by omega)
def ByA (w:World) (a:Option Addr) (n:Nat):Prop:=∀ j,j<n→∃ (b o:Nat) (u:Nat),a=some ⟨b,o,none⟩∧b<w.heap.size∧u<256∧w.cell? ⟨b,o+j,none⟩=some (.int .u8 (u:Int))
theorem ByA.below {w w':World}{a:Option Addr}{n:Nat} (h:ByA w a n) (hb:Below w.heap.size w w'):ByA w' a n:=fun j hj=>by
 obtain ⟨b,o,u,e1,e2,e3,e4⟩:=h j hj
 exact ⟨b,o,u,e1,Nat.lt_of_lt_of_le e2 hb.size,e3,zaa hb e4⟩
theorem ByA.rdr {w:World}{a:Option Addr}{n c g:Nat} (h:ByA w a n) (hn:n≤1048576) (hg:w.heap.size=g):Rdr (w.alloc (.cells #[.slice a n c,.int .i64 0] 64)) g:=by
 subst hg
 refine ⟨a,n,c,0,heap_alloc_new _ _,Nat.zero_le _,hn,fun j hj=>?_⟩
 obtain ⟨b,o,u,e1,e2,e3,e4⟩:=h j hj
 exact ⟨b,o,u,e1,e2,e3,zaa ((Below.refl _ _).alloc (Nat.le_refl _) _) e4⟩
theorem zih {v:World}{d:Nat}{x0 x1 x2 x3:Value} (k:Nat) (hk:k≠d):((((v.setCell ⟨d,0,none⟩ x0).setCell ⟨d,1,none⟩ x1).setCell ⟨d,2,none⟩ x2).setCell ⟨d,3,none⟩ x3).heap[k]?=v.heap[k]?:=by
 have e1:∀ (u:World) (j:Nat) (x:Value),(u.setCell ⟨d,j,none⟩ x).heap[k]?=u.heap[k]?:=fun u j x=>Below.heap_setCell _ _ _ _ hk
 rw [e1,e1,e1,e1]
set_option maxRecDepth 100000 in
set_option maxHeartbeats 1600000 in
theorem zg8 (a:Option Addr) (n c most:Nat) (w:World) (h:ByA w a n) (hn:n≤1048576) (hm:most≤12):Calls Tryz.prog 6 #[.slice a n c,.int .i64 (most:Int)] w fun e w'=>∃ ra rc rs fa fc fs nx cp sg,e=.returned (.tuple #[.slice ra (List.length rs) rc,stV fa (List.length fs) fc nx cp sg])∧RsOk rs∧FsOk most fs∧zbR none w' ra rs∧rs.length≤rc∧zaH w' fa fs∧fs.length≤fc∧Below w.heap.size w w':=by
 have HB:=hidR h
 clear h
 have HA:=hidR (fun o=>(Below.refl _ _).alloc (Nat.le_refl _) o:∀ o,Below w.heap.size w (w.alloc o))
 have RD:=hidR (fun o=>(HB.out.below (HA.out o)).rdr (c:=c) hn (g:=w.heap.size+1) (by simp))
 go_enter Tryz.func6,Tryz.ntmps6
 go_wp2_with fail
 refine (ziH (w.heap.size+1) most _ (RD.out _) hm).mono ?_
 rintro e w1 ⟨ra,rc,M,fa,fc,fs,nx,cp,sg,rfl,⟨hM1,hM8,hMK⟩,hRO,⟨hFA,hfc,hgf,hfl,hfk⟩,hr1⟩
 have S1:=hidR (show TB w1 w.heap.size none 0 0 0 0 false from zaC hr1 ((Below.heap_alloc _ _ _ (by simp)).trans (heap_alloc_new _ _)) (by omega))
 have MO1:=hidR (hRO.lower (base':=w.heap.size) (by simp;omega))
 have FA1:=hidR hFA
 have HK:=hidR (And.intro (zpI hRO hMK hM1 hM8) (zpy hfl hm hgf hfk))
 have B1:=hidR (show Below w.heap.size w w1 from (((HA.out _).alloc (by simp) _).trans (hr1.1.below (by simp;omega) (fun g hg=>by injection hg with hg;omega))))
 clear hRO hr1 HA RD HB hFA hMK hgf hfk
 obtain ⟨⟨f0,f1,f2,f3⟩,z,hb1⟩:=S1.out.facts
 have z0:=z 0
 have z1:=z 1
 have z2:=z 2
 have z3:=z 3
 clear z
 unfold stV
 go_wp2_with fail
 refine bodyPost_ret (v:=.tuple #[.slice ra M.length rc,stV fa fs.length fc nx cp sg]) (by simp [results,Tryz.results6,go_sem,f0,f1,f2,f3,stV]) rfl ⟨ra,rc,M.map RuX.ru,fa,fc,fs,nx,cp,sg,by simp,HK.out.1,HK.out.2,?_,by simpa using MO1.out.cap,?_,hfc,?_⟩
 ·exact (MO1.out.same (Same.kept (d:=w.heap.size) (fun k hk _=>zih k hk) S1.out (by decide))).rus
 ·exact FA1.out.far S1.out (zjA _ _ _ _ _ _) (fun k hk _=>zih k hk)
 ·exact (((B1.out.setCell (Nat.le_refl _) _).setCell (Nat.le_refl _) _).setCell (Nat.le_refl _) _).setCell (Nat.le_refl _) _
end Go.Proofs.YtmmdlgjmplddiaaGreat
namespace Go.Proofs.YtmmdlgjmplddiaaGreat
open Go.RowKit Go.Deep
theorem zmG:Tryz.prog.cellsOf 5=1:=by kernel_rfl
theorem zpz {a:Int} (h:(Lit.int .u8 a).wf=true):0≤a∧a<256:=by
 have h0:IntKind.u8.min=0:=rfl
 have h1:IntKind.u8.max=255:=rfl
 simp [Lit.wf] at h
 omega
section
variable {H : Type} {enc : TypeId × Value → H} {w : World} {base : Nat} {spare : Nat → Bool} {held : Bool}
theorem zm5 {n:Nat}{cs:List Value}{x:DataW H × List MemPlace} (h:DataW.trod enc Tryz.prog w base spare held n 22 cs=some x):∃ a k c,cs=[.slice a k c]∧ByA w a k:=by
 obtain ⟨a,c,vs,e,hR,_,_,hu⟩:=zos (R:=fun _ r (u:Nat)=>r=[.int .u8 (u:Int)]) (Ok:=fun u=>u<256) (0:Nat) 22 5 5 1 Tryz.underlying22 zmG (by omega) (fun n cs x h hc=>by
  match cs,hc with
  | [v0],_=>
   obtain ⟨k,e0,_,wf0⟩:=DataW.trod_int Tryz.underlying5 h
   obtain ⟨h1,h2⟩:=zpz wf0
   refine ⟨k.toNat,?_,by omega⟩
   rw [e0,Int.toNat_of_nonneg h1]) h
 refine ⟨a,vs.length,c,e,fun j hj=>?_⟩
 obtain ⟨b,o,r,e1,_,_,hc,hr⟩:=hR j vs[j] (by simp [hj])
 have h0:=hc 0 _ (by rw [hr];rfl)
 refine ⟨b,o,vs[j],e1,?_,hu _ (List.getElem_mem hj),?_⟩
 ·exact World.block_lt_of_cell? w ⟨b,_,none⟩ h0
 ·simpa using h0
end
end Go.Proofs.YtmmdlgjmplddiaaGreat
