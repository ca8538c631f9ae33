/-
  OUR OWN TEXT. Sp7, Pl, An4, An5, Ag2, Ag3, one behind the other.
-/
import Derived.Test.YtmmdlgjmplddiaaGreatKbl
import Derived.Test.YtmmdlgjmplddiaaGreatKbk
import Derived.Test.YtmmdlgjmplddiaaGreatKah
import Derived.Deep.RegionHeld3
import Derived.Deep.DrawnRows
import Derived.Maps.RangeWalk
import Derived.Maps.OwnSet
import Derived.DeepKeys4
import Derived.Test.YtmmdlgjmplddiaaGreatKaz
import Derived.Test.YtmmdlgjmplddiaaGreatKas
import Derived.Test.YtmmdlgjmplddiaaGreatKar
import Derived.Test.YtmmdlgjmplddiaaGreatKau
import Derived.Test.YtmmdlgjmplddiaaGreatHwm
namespace Go.Proofs.YtmmdlgjmplddiaaGreat
open Go.RowKit
structure C6 where
 fs:List F
 nx:Int
 cp:Int
 sg:Bool
 code:Int
 tag:Int
def C6.bad:C6:=⟨[],0,0,false,1,0⟩
def C6.val (r:C6) (a:Option Addr) (c:Nat):Value:=.agg #[.slice a r.fs.length c,.int .i64 r.nx,.int .i64 r.cp,.bool r.sg,.int .i64 r.code,.int .i64 r.tag]
theorem zft {last:Int}:∀ {fs:List F},zbs last fs=true→∀ f∈fs,last<f.tag
 | [],_,f,hf=>by simp at hf
 | g :: r,h,f,hf=>by
  simp only [zbs,okF,Bool.and_eq_true,decide_eq_true_eq] at h
  rcases List.mem_cons.1 hf with rfl | hm
  ·exact h.1.1
  ·have:=zft h.2 f hm
   omega
end Go.Proofs.YtmmdlgjmplddiaaGreat
namespace Go.Proofs.YtmmdlgjmplddiaaGreat
open Go.RowKit Go.Maps
attribute [local go_sem ↓] Go.wp_at_zero Go.wp_at_succ
theorem zh8 (tag:Int) (f:F):∀ (l:List F),fidx tag (l ++ [f])=match fidx tag l with | some i=>some i | none=>if f.tag=tag then some l.length else none
 | []=>by by_cases h:f.tag=tag <;> simp [fidx,h]
 | g :: r=>by
  rw [List.cons_append,fidx,fidx]
  by_cases h:g.tag=tag
  ·simp [h]
  ·rw [if_neg h,if_neg h,zh8 tag f r]
   cases fidx tag r with
   | some i=>rfl
   | none=>by_cases h':f.tag=tag <;> simp [h']
theorem zgH {f:F}:∀ {fs:List F}{last:Int}{k:Nat},zbs last fs=true→fs[k]?=some f→fidx f.tag (fs.take k)=none
 | [],_,_,_,h=>by simp at h
 | _ :: _,_,0,_,_=>rfl
 | g :: r,last,k+1,hg,h=>by
  have hg2:zbs g.tag r=true:=by simp only [zbs,Bool.and_eq_true] at hg;exact hg.2
  have hm:r[k]?=some f:=by simpa using h
  have:=zft hg2 f (List.mem_of_getElem? hm)
  rw [List.take_succ_cons,fidx,if_neg (by omega),zgH hg2 hm]
  rfl
structure PInv (fs:List F) (k:Nat) (D:DataW Unit):Prop where
 absent:∀ tag,fidx tag (fs.take k)=none→Maps.has D (.int .i64 tag)=false
 present:∀ tag i,fidx tag (fs.take k)=some i→Maps.has D (.int .i64 tag)=true∧∀ z,D.atKey (.int .i64 tag) z=.lit (.int .i64 i)
theorem PInv.step {fs:List F}{k:Nat}{D:DataW Unit}{f:F} (h:PInv fs k D) (hm:IsMap D) (hg:zbs 0 fs=true) (hf:fs[k]?=some f):PInv fs (k+1) (D.put (.int .i64 f.tag) (.lit (.int .i64 k))):=by
 have hk:k<fs.length:=(List.getElem?_eq_some_iff.1 hf).1
 have hfr:=zgH hg hf
 have hl:(fs.take k).length=k:=by simp;omega
 have key:∀ tag,fidx tag (fs.take (k+1))=if f.tag=tag then some k else fidx tag (fs.take k):=by
  intro tag
  rw [zbW fs k f hf,zh8,hl]
  by_cases ht:f.tag=tag
  ·subst ht
   rw [hfr]
  ·rw [if_neg ht,if_neg ht]
   cases fidx tag (fs.take k) <;> rfl
 constructor
 ·intro tag hn
  rw [key] at hn
  by_cases ht:f.tag=tag
  ·rw [if_pos ht] at hn;cases hn
  ·rw [if_neg ht] at hn
   rw [has_put_other (fun e=>ht (by cases e;rfl))]
   exact h.absent tag hn
 ·intro tag i hn
  rw [key] at hn
  by_cases ht:f.tag=tag
  ·rw [if_pos ht] at hn
   cases hn
   subst ht
   have hkl:WideAt.IsKeyLit (.int .i64 f.tag):=trivial
   exact ⟨has_put_same hm hkl _,fun z=>atKey_put_same hm hkl _ z⟩
  ·rw [if_neg ht] at hn
   obtain ⟨h1,h2⟩:=h.present tag i hn
   have hne:Lit.int .i64 tag≠Lit.int .i64 f.tag:=fun e=>ht (by cases e;rfl)
   exact ⟨by rw [has_put_other hne];exact h1,fun z=>by rw [atKey_put_other hne];exact h2 z⟩
end Go.Proofs.YtmmdlgjmplddiaaGreat
namespace Go.Proofs.YtmmdlgjmplddiaaGreat
open Go.RowKit Go.Maps
attribute [local go_sem ↓] Go.wp_at_zero Go.wp_at_succ
def zT:Tt:=⟨0,0,0,(0,0,⟨#[]⟩)⟩
def padT (ts:List Tt):List Tt:=ts ++ List.replicate (6 - ts.length) zT
def zdh (cls:ByteArray) (n:Int) (ts:List Tt):List Value:=.string cls :: .int .i64 n :: ts.flatMap zat
def keyA (x:Al):List Value:=zdh x.cls x.arity (padT x.tests)
theorem znV (ts:List Tt):∀ x∈ts.flatMap zat,x.oneCell'=true:=by
 intro x hx
 obtain ⟨t,_,ht⟩:=List.mem_flatMap.1 hx
 exact zbP t x ht
theorem zcZ (cls:ByteArray) (n:Int) (ts:List Tt):(zdh cls n ts).length=ts.length * 6+2:=by
 show (ts.flatMap zat).length+1+1=_
 rw [zc0]
theorem zer (cls:ByteArray) (n:Int) (ts:List Tt):∀ x∈zdh cls n ts,x.oneCell'=true:=by
 intro x hx
 simp only [zdh,List.mem_cons] at hx
 rcases hx with rfl | rfl | hx
 ·rfl
 ·rfl
 ·exact znV ts x hx
theorem zdU (ts:List Tt) (h:ts.length≤6):(padT ts).length=6:=by simp [padT];omega
theorem ziN (cls:ByteArray) (n:Int) (ts:List Tt) (h:ts.length≤6) :
  (zdh cls n (List.replicate 6 zT)).take 2 ++ (ts.flatMap zat ++ (zdh cls n (List.replicate 6 zT)).drop (2+(ts.flatMap zat).length))=zdh cls n (padT ts):=by
 have e:∀ k,k≤6→((List.replicate 6 zT).flatMap zat).drop (k * 6)=(List.replicate (6 - k) zT).flatMap zat:=by
  intro k hk
  rcases (show k=0∨k=1∨k=2∨k=3∨k=4∨k=5∨k=6 by omega) with rfl | rfl | rfl | rfl | rfl | rfl | rfl <;> rfl
 rw [zc0]
 unfold zdh padT
 rw [List.flatMap_append,← e ts.length h,show 2+ts.length * 6=ts.length * 6+1+1 by omega]
 rfl
theorem zpA (ts:List Tt) (j:Nat) (x:Value) (h:(ts.flatMap zat)[j]?=some x):∃ t,ts[j / 6]?=some t∧(zat t)[j % 6]?=some x:=by
 induction ts generalizing j with
 | nil=>simp at h
 | cons t r ih=>
  have hlen:(zat t).length=6:=rfl
  rw [List.flatMap_cons] at h
  by_cases hj:j<6
  ·rw [List.getElem?_append_left (by omega)] at h
   refine ⟨t,?_,?_⟩
   ·rw [show j / 6=0 by omega];rfl
   ·rwa [show j % 6=j by omega]
  ·rw [List.getElem?_append_right (by omega)] at h
   obtain ⟨u,h1,h2⟩:=ih (j - (zat t).length) h
   rw [hlen] at h1 h2
   refine ⟨u,?_,?_⟩
   ·rw [show j / 6=(j - 6) / 6+1 by omega];exact h1
   ·rwa [show j % 6=(j - 6) % 6 by omega]
theorem zcp.flat {q:Option Nat}{w:World}{ad:Addr}{ts:List Tt} (h:zcp q w (some ad) ts) (j:Nat) (x:Value) (hx:(ts.flatMap zat)[j]?=some x):w.cell? (ad.add j)=some x:=by
 obtain ⟨t,ht,hc⟩:=zpA ts j x hx
 obtain ⟨b,o,r,he,_,_,h4,hR⟩:=h _ t ht
 cases he
 have hR':r=zat t:=hR
 have hadd:(⟨b,o,none⟩:Addr).add j=⟨b,o+j,none⟩:=Addr.add_mid b o j
 rw [hadd]
 have:=h4 (j % 6) x (by rw [hR'];exact hc)
 rw [show o+j=o+j / 6 * 6+j % 6 by omega]
 exact this
theorem zcp.nil' {q:Option Nat}{w:World}{ts:List Tt} (h:zcp q w none ts):ts.length=0:=by
 cases ts with
 | nil=>rfl
 | cons v r=>
  obtain ⟨b,o,_,he,_⟩:=h 0 v rfl
  cases he
theorem ze1 (w:World) (o:Obj) (n:Nat) (h:w.heap.size=n):(w.alloc o).heap[n]?=some o:=by
 subst h
 exact heap_alloc_new _ _
theorem zgs:(Tryz.prog.info? 153).map (·.size)=some 38:=by kernel_rfl
theorem zoW:(Tryz.prog.info? 111).map (·.size)=some 6:=by kernel_rfl
set_option maxHeartbeats 1600000 in
theorem znm (x:Al) (a:Option Addr) (c:Nat) {q:Option Nat} (w:World) (hv:zcp q w a x.tests) (hl:x.tests.length≤6) :
  Calls Tryz.prog 68 #[.agg #[.string x.cls,.int .i64 x.arity,.slice a x.tests.length c]] w fun e w'=>
   e=.returned (.agg (keyA x).toArray)∧Below w.heap.size w w':=by
 go_enter Tryz.func68,Tryz.ntmps68
 go_wp2_with (refine zal (by rfl) 153 (.tmp 3) (.tmp 8) (by rfl) (w.heap.size+1+1) (zdh x.cls x.arity (List.replicate 6 zT)) (by rfl) (by rfl) _ 153 (ze1 _ _ _ (by simp)) (by rfl) (by rw [zcZ];exact zgs) (zer _ _ _) ?_;intro w1 hb1 ht1)
 go_frame
 have T1:=ht1.out
 have q2:w1.cell? ⟨w.heap.size,2,none⟩=some (.slice a x.tests.length c):=by rw [T1.cell (by simp;omega)];simp [go_sem]
 obtain ⟨c0,R0,hc0⟩:∃ c0:Array Value,w1.heap[w.heap.size+1]?=some (.cells c0 153 (0,0))∧c0.size=38:=
  ⟨_,(T1.block _ (by omega)).trans ((Below.heap_alloc _ _ _ (by simp)).trans (ze1 _ _ _ (by simp))),rfl⟩
 have R1:Hid (w1.heap[w.heap.size+1]?=some (.cells c0 153 (0,0))):=R0
 have HC:Hid (c0.size=38):=hc0
 clear R0 hc0
 have B1:Below w.heap.size w w1:=((((Below.refl _ _).alloc (Nat.le_refl _) _).alloc (by simp) _).alloc (by simp;omega) _).trans (T1.below (by omega))
 have hv1:=hv.below B1
 have hz1:w1.heap.size=w.heap.size+1+1+1:=by rw [T1.size];simp
 have HZ:Hid (w1.heap.size=w.heap.size+1+1+1):=hz1
 clear hz1 ht1 T1 hv
 have hmin:Nat.min x.tests.length 6=x.tests.length:=by simp [Nat.min_def];omega
 have HM:Hid (Nat.min x.tests.length 6=x.tests.length):=hmin
 clear hmin
 go_region_held3 (fun w'=>w'.cell? ⟨w.heap.size,2,none⟩=some (.slice a x.tests.length c)) ((first | (simp [*];done) | (rw [ht2.out.cell (by simp;omega)];simp [*])))
  ((refine zgR (by rfl) (.tmp 10) (.tmp 12) 55 55 (by rfl) 111 6 Tryz.underlying55 zoW (w.heap.size+1+1) 2 6 6 a x.tests.length c (by rfl) (by rfl) _ 153 hb1.out (x.tests.flatMap zat) (by rw [HM.out,zc0]) (fun e=>zcp.nil' (e ▸ hv1)) (fun ad e=>zcp.flat (e ▸ hv1)) (by rw [zc0];simp [zcZ];omega) (znV _) ?_;intro w2 hb2 ht2))
 have hk:w2.heap[w.heap.size+1+1]?=some (.cells (keyA x).toArray 153 (0,0)):=by
  have:=hb2.out
  rw [List.toList_toArray,ziN _ _ _ hl] at this
  exact this
 have T2:=ht2.out
 have R2:w2.heap[w.heap.size+1]?=some (.cells c0 153 (0,0)):=(T2.block _ (by omega)).trans R1.out
 have hlen:(keyA x).length=38:=by unfold keyA;rw [zcZ,zdU _ hl]
 have B2:Below w.heap.size w w2:=B1.drew.trans (T2.below (by omega))
 have HK:Hid (w2.heap[w.heap.size+1+1]?=some (.cells (keyA x).toArray 153 (0,0))):=hk
 have HR:Hid (w2.heap[w.heap.size+1]?=some (.cells c0 153 (0,0))):=R2
 have HL:Hid ((keyA x).length=38):=hlen
 clear hb2 ht2 T2 hk R2 hlen R1 hb1 q2
 go_wp2_with (first | (refine zds (by rfl) 153 (.tmp 3) (by rfl) (w.heap.size+1+1) (keyA x) (by rfl) 153 (0,0) HK.out _ Tryz.underlying153 (by rfl) (by rw [HL.out];exact zgs) ?_) | (refine zal (by rfl) 153 (.tmp 2) (.tmp 14) (by rfl) (w.heap.size+1) (keyA x) (by rfl) (by rfl) c0 153 HR.out (by rw [HL.out];exact HC.out) (by rw [HL.out];exact zgs) (zer _ _ _) ?_;intro w3 hb3 ht3))
 have hld:=run_loadVar_mid (P:=Tryz.prog) w3 (w.heap.size+1) 0 153 (keyA x) _ (zdn hb3.out) Tryz.underlying153 rfl (by rw [HL.out];exact zgs)
 go_frame
 exact bodyPost_ret (v:=.agg (keyA x).toArray) (by simp [results,Tryz.results68,asAddr,hld]) rfl ⟨rfl,B2.trans (ht3.out.below (by omega))⟩
end Go.Proofs.YtmmdlgjmplddiaaGreat
namespace Go.Proofs.YtmmdlgjmplddiaaGreat
open Go.RowKit Go.Maps
theorem zpB:(153:TypeId)<Tryz.prog.types.size:=of_decide_eq_true (by kernel_rfl)
theorem zoT:(match Tryz.prog.underlying 153 with | some (.array _ _) | some (.struct _)=>true | _=>false)=true:=by kernel_rfl
theorem zpe:Tryz.prog.keyType 153=true:=by kernel_rfl
set_option maxRecDepth 100000 in
theorem zmP:Keyed Tryz.prog 153:=Keyed.of_law (deep_law_laid zll (m:=6) (by omega) zpB (by kernel_rfl) zoT)
theorem zlz:Tryz.prog.cellsOf 153=38:=by kernel_rfl
theorem zmx:Tryz.prog.cellsOf 151=36:=by kernel_rfl
theorem zmc:Tryz.prog.cellsOf 111=6:=by kernel_rfl
theorem zlE:Tryz.prog.cellsOf 109=3:=by kernel_rfl
def TOk (t:Tt):Prop:=(Lit.int .i64 t.slot).wf=true∧(Lit.int .i64 t.op).wf=true∧(Lit.int .i64 t.other).wf=true∧VOk t.val
def AOk (x:Al):Prop:=x.cls.size≤maxLen∧(Lit.int .i64 x.arity).wf=true∧x.tests.length≤6∧∀ t∈x.tests,TOk t∧t.op≠0
theorem zpJ:TOk zT:=⟨by decide,by decide,by decide,by decide,by decide,by decide⟩
theorem zpC (d:Nat) (v:V) (h:VOk v):Tryz.prog.keyLits (d+2) 109 [.int .i64 v.kind,.int .i64 v.num,.string v.sym]=some [.int .i64 v.kind,.int .i64 v.num,.string v.sym.data.toList]:=by
 obtain ⟨h1,h2,h3⟩:=h
 simp [Program.keyLits,Tryz.underlying109,Tryz.underlying3,Tryz.underlying2,Tryz.underlying9,zlE,zl1,zm6,znZ,h1,h2,h3]
theorem zkg (d:Nat) (t:Tt) (h:TOk t):∃ l,Tryz.prog.keyLits (d+3) 111 (zat t)=some l:=by
 obtain ⟨h1,h2,h3,h4⟩:=h
 have hI:∀ n:Int,(Lit.int .i64 n).wf=true→Tryz.prog.keyLits (d+2) 3 [.int .i64 n]=some [.int .i64 n]:=fun n hn=>by simp [Program.keyLits,Tryz.underlying3,hn]
 unfold Program.keyLits
 rw [Tryz.underlying111]
 simp only [zmc]
 rw [if_pos ⟨by rfl,by decide +kernel⟩]
 simp only [zat,List.mapM_cons,List.mapM_nil,zl1,zlE,List.drop_zero,List.take_succ_cons,List.take_zero,List.drop_succ_cons,hI _ h1,hI _ h2,hI _ h3,zpC d t.val h4]
 exact ⟨_,rfl⟩
theorem zpH (d:Nat) (a b c e f g:Tt) (ha:TOk a) (hb:TOk b) (hc:TOk c) (he:TOk e) (hf:TOk f) (hg:TOk g):(Tryz.prog.keyLits (d+4) 151 ([a,b,c,e,f,g].flatMap zat)).isSome=true:=by
 obtain ⟨la,ka⟩:=zkg d a ha
 obtain ⟨lb,kb⟩:=zkg d b hb
 obtain ⟨lc,kc⟩:=zkg d c hc
 obtain ⟨le,ke⟩:=zkg d e he
 obtain ⟨lf,kf⟩:=zkg d f hf
 obtain ⟨lg,kg⟩:=zkg d g hg
 unfold zat at ka kb kc ke kf kg
 unfold Program.keyLits
 rw [Tryz.underlying151]
 simp only [zmx,zmc]
 rw [if_pos (by rfl)]
 simp only [show List.range 6=[0,1,2,3,4,5] by rfl,List.mapM_cons,List.mapM_nil]
 simp only [zat,List.flatMap_cons,List.flatMap_nil,List.cons_append,List.nil_append,Nat.zero_mul,Nat.one_mul,List.drop_zero,List.take_succ_cons,List.take_zero,List.drop_succ_cons,ka,kb,kc,ke,kf,kg]
 rfl
theorem zpu (d:Nat) (cls:ByteArray) (n:Int) (hc:cls.size≤maxLen) (hn:(Lit.int .i64 n).wf=true) (L:List Value) (hL:L.length=36) (hA:(Tryz.prog.keyLits (d+1) 151 L).isSome=true) :
  (Tryz.prog.keyLits (d+2) 153 (.string cls :: .int .i64 n :: L)).isSome=true:=by
 obtain ⟨l,hl⟩:=Option.isSome_iff_exists.1 hA
 have hS:Tryz.prog.keyLits (d+1) 9 [.string cls]=some [.string cls.data.toList]:=by simp [Program.keyLits,Tryz.underlying9,hc]
 have hI:Tryz.prog.keyLits (d+1) 3 [.int .i64 n]=some [.int .i64 n]:=by simp [Program.keyLits,Tryz.underlying3,hn]
 have hT:L.take 36=L:=List.take_of_length_le (by omega)
 unfold Program.keyLits
 rw [Tryz.underlying153]
 simp only [zlz]
 rw [if_pos ⟨by simp [hL],by decide +kernel⟩]
 simp only [List.mapM_cons,List.mapM_nil,znZ,zl1,zmx,List.drop_zero,List.take_succ_cons,List.take_zero,List.drop_succ_cons,hS,hI,hT,hl]
 rfl
theorem zm2 (cls:ByteArray) (n:Int) (hc:cls.size≤maxLen) (hn:(Lit.int .i64 n).wf=true) (ts:List Tt) (hl:ts.length=6) (hv:∀ t∈ts,TOk t):∃ l,keyOf Tryz.prog 153 (.agg (zdh cls n ts).toArray)=some l:=by
 match ts,hl with
 | [a,b,c,e,f,g],_=>
  have hk:=zpH (Tryz.prog.types.size - 4) a b c e f g (hv _ (by simp)) (hv _ (by simp)) (hv _ (by simp)) (hv _ (by simp)) (hv _ (by simp)) (hv _ (by simp))
  have h3:4≤Tryz.prog.types.size:=of_decide_eq_true (by kernel_rfl)
  have hK:=zpu (Tryz.prog.types.size - 4+3) cls n hc hn _ (by rfl) hk
  rw [show Tryz.prog.types.size - 4+3+2=Tryz.prog.types.size+1 by omega] at hK
  have hformed:(Value.agg (zdh cls n [a,b,c,e,f,g]).toArray).formed Tryz.prog 153=true:=by
   simp [Value.formed,Tryz.underlying153,zlz,zcZ]
  unfold keyOf
  rw [Tryz.underlying153]
  simp only [zpe,hformed,Bool.and_self,if_true]
  obtain ⟨ls,hls⟩:=Option.isSome_iff_exists.1 hK
  show ∃ l,(Tryz.prog.keyLits (Tryz.prog.types.size+1) 153 (.string cls :: .int .i64 n :: [a,b,c,e,f,g].flatMap zat)).map _=some l
  rw [hls]
  exact ⟨_,rfl⟩
theorem zgt:∀ (us vs:List Tt),us.length=vs.length→us.flatMap zat=vs.flatMap zat→us=vs
 | [],[],_,_=>rfl
 | [],_ :: _,h,_=>by simp at h
 | _ :: _,[],h,_=>by simp at h
 | u :: us,v :: vs,h,e=>by
  simp only [List.flatMap_cons,zat,List.cons_append,List.nil_append,List.cons.injEq,Value.int.injEq,Value.string.injEq,true_and] at e
  obtain ⟨e1,e2,e3,e4,e5,e6,e7⟩:=e
  have hr:=zgt us vs (by simpa using h) e7
  rw [hr,Tt.tup_inj (x:=u) (y:=v) (by simp only [Tt.tup,e1,e2,e3,e4,e5,e6])]
theorem zoa {x:Al} (h:AOk x):∃ l,keyOf Tryz.prog 153 (.agg (keyA x).toArray)=some l:=by
 obtain ⟨h1,h2,h3,h4⟩:=h
 refine zm2 x.cls x.arity h1 h2 (padT x.tests) (zdU _ h3) ?_
 intro t ht
 rcases List.mem_append.1 ht with ht | ht
 ·exact (h4 t ht).1
 ·rw [List.eq_of_mem_replicate ht]
  exact zpJ
def KLA (kl:Al→Lit):Prop:=∀ x,AOk x→keyOf Tryz.prog 153 (.agg (keyA x).toArray)=some (kl x)
theorem KLA.exist:∃ kl,KLA kl:=
 ⟨fun x=>(keyOf Tryz.prog 153 (.agg (keyA x).toArray)).getD (.bool false),fun x h=>by
  obtain ⟨l,hl⟩:=zoa h
  simp only [hl,Option.getD_some]⟩
def real (t:Tt):Bool:=!(t.op==0)
theorem zir {ts:List Tt} (h:∀ t∈ts,t.op≠0):(padT ts).filter real=ts:=by
 unfold padT
 rw [List.filter_append,List.filter_eq_self.2 (fun t ht=>by simp [real,h t ht]),List.filter_eq_nil_iff.2 (fun t ht=>by rw [List.eq_of_mem_replicate ht];simp [real,zT]),List.append_nil]
theorem zmo {kl:Al→Lit} (K:KLA kl) {x y:Al} (hx:AOk x) (hy:AOk y) (h:kl x=kl y):x=y:=by
 have e:=zmP.inj (K x hx) (h ▸ K y hy)
 simp only [Value.agg.injEq] at e
 have e':keyA x=keyA y:=by simpa using congrArg Array.toList e
 unfold keyA zdh at e'
 simp only [List.cons.injEq,Value.string.injEq,Value.int.injEq,true_and] at e'
 obtain ⟨e1,e2,e3⟩:=e'
 have hp:=zgt _ _ (by rw [zdU _ hx.2.2.1,zdU _ hy.2.2.1]) e3
 have ht:x.tests=y.tests:=by rw [← zir (fun t ht=>(hx.2.2.2 t ht).2),← zir (fun t ht=>(hy.2.2.2 t ht).2),hp]
 obtain ⟨x1,x2,x3⟩:=x
 obtain ⟨y1,y2,y3⟩:=y
 simp only at e1 e2 ht
 subst e1 e2 ht
 rfl
def ptrR (v:Value):Option (DataW Unit × List MemPlace):=
 match v with
 | .pointer (some ⟨b,0,none⟩)=>some (.lit (.int .i64 (b:Int)),[])
 | .pointer none=>some (.lit (.bool false),[])
 | _=>none
theorem zoz (b:Nat):ptrR (.pointer (some ⟨b,0,none⟩))=some (.lit (.int .i64 (b:Int)),[]):=rfl
theorem znD {v:Value}{b:Nat}{ps:List MemPlace} (h:ptrR v=some (.lit (.int .i64 (b:Int)),ps)):v=.pointer (some ⟨b,0,none⟩):=by
 unfold ptrR at h
 split at h
 ·rename_i b'
  simp at h
  have e:b'=b:=by omega
  rw [e]
 ·simp at h
 ·cases h
def zP:DataW Unit:=.lit (.bool false)
structure MIA (kl:Al→Lit) (A:List Al) (bs:List Nat) (D:DataW Unit):Prop where
 len:bs.length=A.length
 yes:∀ x b,AOk x→bs[zbS x A]?=some b→has D (kl x)=true∧D.atKey (kl x) zP=.lit (.int .i64 (b:Int))
 no:∀ x,AOk x→¬ zbS x A<A.length→has D (kl x)=false
theorem MIA.start (kl:Al→Lit):MIA kl [] [] (.map []):=⟨rfl,fun x b _ h=>by simp at h,fun x _ _=>by simp [has]⟩
theorem zem (x y:Al):∀ A:List Al,zbS x (A ++ [y])=if zbS x A<A.length then zbS x A else if zki y x then A.length else A.length+1
 | []=>by simp [zbS]
 | z :: r=>by
  simp only [List.cons_append,zbS,List.length_cons]
  split
  ·simp
  ·rw [zem x y r]
   by_cases h1:zbS x r<r.length
   ·rw [if_pos h1,if_pos (show zbS x r+1<r.length+1 by omega)]
   ·rw [if_neg h1,if_neg (show ¬ zbS x r+1<r.length+1 by omega)]
    split <;> rfl
theorem MIA.add {kl:Al→Lit} (K:KLA kl) {A:List Al}{bs:List Nat}{D:DataW Unit}{y:Al}{b:Nat} (h:MIA kl A bs D) (hm:IsMap D) (hy:AOk y) (hn:¬ zbS y A<A.length):MIA kl (A ++ [y]) (bs ++ [b]) (D.put (kl y) (.lit (.int .i64 (b:Int)))):=by
 have hkey:WideAt.IsKeyLit (kl y):=zmP.key (K y hy)
 have hlen:=h.len
 refine ⟨by simp [hlen],fun x b' hx hb=>?_,fun x hx hno=>?_⟩
 ·rw [zem] at hb
  by_cases h1:zbS x A<A.length
  ·rw [if_pos h1,List.getElem?_append_left (by omega)] at hb
   have hne:kl x≠kl y:=fun e=>hn (by rw [← zmo K hx hy e];exact h1)
   rw [has_put_other hne,atKey_put_other hne]
   exact h.yes x b' hx hb
  ·rw [if_neg h1] at hb
   by_cases h2:zki y x=true
   ·rw [if_pos h2,List.getElem?_append_right (by omega),hlen,Nat.sub_self] at hb
    simp at hb
    subst hb
    have e:=zfc.1 h2
    subst e
    exact ⟨has_put_same hm hkey _,atKey_put_same hm hkey _ _⟩
   ·rw [if_neg h2,List.getElem?_append_right (by omega),hlen,Nat.add_sub_cancel_left] at hb
    simp at hb
 ·rw [zem] at hno
  by_cases h1:zbS x A<A.length
  ·rw [if_pos h1] at hno
   simp at hno
   omega
  ·rw [if_neg h1] at hno
   by_cases h2:zki y x=true
   ·rw [if_pos h2] at hno
    simp at hno
   ·have hne:kl x≠kl y:=fun e=>h2 (zfc.2 (zmo K hx hy e).symm)
    rw [has_put_other hne]
    exact h.no x hx h1
end Go.Proofs.YtmmdlgjmplddiaaGreat
namespace Go.Proofs.YtmmdlgjmplddiaaGreat
open Go.RowKit
abbrev EnX:=In × Value × Value
def zbI (rs:List Ru) (x:EnX):List Value:=[.int .i64 (zaZ rs x.1),x.2.1,.int .i64 x.1.rule,x.2.2]
structure EnP (rs:List Ru) (w:World) (base:Nat) (x:EnX):Prop where
 pl:zaJ rs x.1=true
 r:∃ a c,x.2.1=.slice a (recA x.1.tags).length c
 ro:w.ownsRow base 3 1 x.2.1 (recA x.1.tags).length (icells (recA x.1.tags))
 t:∃ a c,x.2.2=.slice a x.1.tags.length c
 tw:w.ownsRow base 3 1 x.2.2 x.1.tags.length (icells x.1.tags)
theorem EnP.same {rs:List Ru}{w w':World}{base:Nat}{x:EnX} (h:EnP rs w base x) (hk:∀ (k:Nat) c,w.heap[k]?=some (.cells c 3 (0,0))→w'.heap[k]?=w.heap[k]?):EnP rs w' base x:=
 ⟨h.pl,h.r,zae h.ro (fun g hg=>by obtain ⟨c,hc⟩:=zai h.ro hg;exact hk g c hc),h.t,zae h.tw (fun g hg=>by obtain ⟨c,hc⟩:=zai h.tw hg;exact hk g c hc)⟩
theorem EnP.bel {rs:List Ru}{w w':World}{base:Nat}{x:EnX} (h:EnP rs w base x) (hb:Below w.heap.size w w'):EnP rs w' base x:=h.same (fun k _ hk=>hb.block k (zab hk))
structure AgO (rs:List Ru) (w:World) (base:Nat) (a:Option Addr) (c:Nat) (L:List EnX):Prop where
 row:w.ownsRow base 123 4 (.slice a L.length c) L.length (L.flatMap (zbI rs))
 all:∀ x∈L,EnP rs w base x
theorem AgO.nil (rs:List Ru) (w:World) (base:Nat):AgO rs w base none 0 []:=⟨World.ownsRow_nil _ _ _ _,fun x hx=>by simp at hx⟩
theorem AgO.bel {rs:List Ru}{w w':World}{base:Nat}{a:Option Addr}{c:Nat}{L:List EnX} (h:AgO rs w base a c L) (hb:Below w.heap.size w w'):AgO rs w' base a c L:=⟨zag h.row hb,fun x hx=>(h.all x hx).bel hb⟩
theorem AgO.get {rs:List Ru}{w:World}{base:Nat}{a:Option Addr}{c:Nat}{L:List EnX} (h:AgO rs w base a c L) {i:Nat}{x:EnX} (hi:L[i]?=some x) :
  ∃ g,a=some ⟨g,0,none⟩∧base≤g∧(w.cell? ⟨g,i * 4,none⟩=some (.int .i64 (zaZ rs x.1))∧w.cell? ⟨g,i * 4+1,none⟩=some x.2.1∧w.cell? ⟨g,i * 4+2,none⟩=some (.int .i64 x.1.rule)∧w.cell? ⟨g,i * 4+3,none⟩=some x.2.2)∧(w.frozen? ⟨g,i * 4,none⟩=false∧w.frozen? ⟨g,i * 4+1,none⟩=false∧w.frozen? ⟨g,i * 4+2,none⟩=false∧w.frozen? ⟨g,i * 4+3,none⟩=false):=by
 have key:=fun j u (hj:(zbI rs x)[j]?=some u)=>zam h.row (za5 (cells:=zbI rs) (m:=4) (fun _=>rfl) L i x j u hi hj)
 obtain ⟨g,rfl,hg,c0,f0⟩:=key 0 _ rfl
 obtain ⟨_,e1,_,c1,f1⟩:=key 1 _ rfl
 obtain ⟨_,e2,_,c2,f2⟩:=key 2 _ rfl
 obtain ⟨_,e3,_,c3,f3⟩:=key 3 _ rfl
 cases e1
 cases e2
 cases e3
 exact ⟨g,rfl,hg,⟨c0,c1,c2,c3⟩,f0,f1,f2,f3⟩
theorem zgM {rs:List Ru}{y:EnX}:∀ (L:List EnX) (i:Nat),i<L.length→((((L.flatMap (zbI rs)).set (i * 4) (.int .i64 (zaZ rs y.1))).set (i * 4+1) y.2.1).set (i * 4+2) (.int .i64 y.1.rule)).set (i * 4+3) y.2.2=(L.set i y).flatMap (zbI rs)
 | [],i,h=>by simp at h
 | x :: r,0,_=>by simp [zbI]
 | x :: r,i+1,h=>by
  have ih:=zgM (rs:=rs) (y:=y) r i (by simpa using h)
  have hl:(zbI rs x).length=4:=rfl
  rw [List.flatMap_cons,List.set_append_right _ _ (by rw [hl];omega),List.set_append_right _ _ (by rw [hl];omega),List.set_append_right _ _ (by rw [hl];omega),List.set_append_right _ _ (by rw [hl];omega),hl,show (i+1) * 4 - 4=i * 4 by omega,show (i+1) * 4+1 - 4=i * 4+1 by omega,show (i+1) * 4+2 - 4=i * 4+2 by omega,show (i+1) * 4+3 - 4=i * 4+3 by omega,ih,List.set_cons_succ,List.flatMap_cons]
theorem AgO.set {rs:List Ru}{w:World}{base g c:Nat}{L:List EnX}{i:Nat}{y:EnX} (h:AgO rs w base (some ⟨g,0,none⟩) c L) (hi:i<L.length) (hy:EnP rs w base y) :
  AgO rs ((((w.setCell ⟨g,i * 4,none⟩ (.int .i64 (zaZ rs y.1))).setCell ⟨g,i * 4+1,none⟩ y.2.1).setCell ⟨g,i * 4+2,none⟩ (.int .i64 y.1.rule)).setCell ⟨g,i * 4+3,none⟩ y.2.2) base (some ⟨g,0,none⟩) c (L.set i y) ∧
  MkO (some g) w ((((w.setCell ⟨g,i * 4,none⟩ (.int .i64 (zaZ rs y.1))).setCell ⟨g,i * 4+1,none⟩ y.2.1).setCell ⟨g,i * 4+2,none⟩ (.int .i64 y.1.rule)).setCell ⟨g,i * 4+3,none⟩ y.2.2):=by
 have hm:MkO (some g) w ((((w.setCell ⟨g,i * 4,none⟩ (.int .i64 (zaZ rs y.1))).setCell ⟨g,i * 4+1,none⟩ y.2.1).setCell ⟨g,i * 4+2,none⟩ (.int .i64 y.1.rule)).setCell ⟨g,i * 4+3,none⟩ y.2.2):=
  (((MkO.set _).trans (MkO.set _)).trans (MkO.set _)).trans (MkO.set _)
 obtain ⟨cc,hc⟩:=zai h.row (k:=g) rfl
 have hk:∀ (k:Nat) c',w.heap[k]?=some (.cells c' 3 (0,0))→((((w.setCell ⟨g,i * 4,none⟩ (.int .i64 (zaZ rs y.1))).setCell ⟨g,i * 4+1,none⟩ y.2.1).setCell ⟨g,i * 4+2,none⟩ (.int .i64 y.1.rule)).setCell ⟨g,i * 4+3,none⟩ y.2.2).heap[k]?=w.heap[k]?:=fun k c' hk=>hm.block k (zab hk) (fun e=>by
  injection e with e
  subst e
  exact zaA hc hk (by decide))
 refine ⟨⟨?_,fun x hx=>?_⟩,hm⟩
 ·have h1:=(((((((h.row.stored (i * 4) (.int .i64 (zaZ rs y.1))).1).stored (i * 4+1) y.2.1).1).stored (i * 4+2) (.int .i64 y.1.rule)).1).stored (i * 4+3) y.2.2).1
  rw [zgM L i hi] at h1
  simpa using h1
 ·rcases List.mem_or_eq_of_mem_set hx with hx | rfl
  ·exact (h.all x hx).same hk
  ·exact hy.same hk
def zcb (L:List EnX) (i j:Nat) (x y:EnX):List EnX:=(L.set i y).set j x
theorem zie (L:List EnX) (i j:Nat) (x y:EnX):(zcb L i j x y).length=L.length:=by simp [zcb]
end Go.Proofs.YtmmdlgjmplddiaaGreat
namespace Go.Proofs.YtmmdlgjmplddiaaGreat
open Go.RowKit
attribute [local go_sem ↓] Go.wp_at_zero Go.wp_at_succ
set_option maxHeartbeats 800000 in
theorem zdV (a:Option Addr) (n c:Nat) (w:World):Calls Tryz.prog 42 #[.slice a n c] w fun e w'=>e=.returned (.int .i64 (n:Int))∧w'=w:=by
 go_enter Tryz.func42,Tryz.ntmps42
 go_wp2_with fail
 go_ret
 exact ⟨rfl,rfl⟩
set_option maxRecDepth 100000 in
set_option maxHeartbeats 3200000 in
theorem zcW (rs:List Ru) (L:List EnX) (a:Option Addr) (c base i j:Nat) (x y:EnX) (w:World) (h:AgO rs w base a c L) (hi:L[i]?=some x) (hj:L[j]?=some y) :
  Calls Tryz.prog 201 #[.slice a L.length c,.int .i64 (i:Int),.int .i64 (j:Int)] w fun e w'=>e=.returned (.bool (befI rs x.1 y.1))∧Below w.heap.size w w':=by
 obtain ⟨g,rfl,_,⟨c0,c1,c2,c3⟩,_⟩:=h.get hi
 obtain ⟨g',e',_,⟨d0,d1,d2,d3⟩,_⟩:=h.get hj
 cases e'
 have hx:=h.all x (List.mem_of_getElem? hi)
 have hy:=h.all y (List.mem_of_getElem? hj)
 obtain ⟨x,xr,xt⟩:=x
 obtain ⟨y,yr,yt⟩:=y
 obtain ⟨a1,b1,e1⟩:=hx.r
 obtain ⟨a2,b2,e2⟩:=hx.t
 obtain ⟨a3,b3,e3⟩:=hy.r
 obtain ⟨a4,b4,e4⟩:=hy.t
 have o1:=hx.ro
 have o2:=hx.tw
 have o3:=hy.ro
 have o4:=hy.tw
 simp only at e1 e2 e3 e4 o1 o2 o3 o4 c0 c1 c2 c3 d0 d1 d2 d3
 subst e1 e2 e3 e4
 have tx:x.tags.length≤1048576:=by have:=hx.pl;simp only [zaJ,Bool.and_eq_true,decide_eq_true_eq] at this;omega
 have ty:y.tags.length≤1048576:=by have:=hy.pl;simp only [zaJ,Bool.and_eq_true,decide_eq_true_eq] at this;omega
 have HA:=hidA (fun w' (hb:Below w.heap.size w w')=>zhX rs x y a1 a2 a3 a4 b1 b2 b3 b4 w' ((zas.owns o1).below hb) ((zas.owns o2).below hb) ((zas.owns o3).below hb) ((zas.owns o4).below hb) tx ty)
 unfold enV at HA
 have il:i<L.length:=(List.getElem?_eq_some_iff.1 hi).1
 have jl:j<L.length:=(List.getElem?_eq_some_iff.1 hj).1
 have z0:(0:Int)≤(i:Int):=by omega
 have z1:(i:Int)<(L.length:Int):=by omega
 have z2:(0:Int)≤(j:Int):=by omega
 have z3:(j:Int)<(L.length:Int):=by omega
 have B1:Below w.heap.size w w.drew:=(Below.refl _ _).drew
 clear hx hy o1 o2 o3 o4 hi hj h
 go_enter Tryz.func201,Tryz.ntmps201
 go_wp2_with fail
 go_region_held3 (fun w'=>w'.cell? ⟨g,i * 4,none⟩=some (.int .i64 (zaZ rs x))∧w'.cell? ⟨g,i * 4+1,none⟩=some (.slice a1 (recA x.tags).length b1)∧w'.cell? ⟨g,i * 4+2,none⟩=some (.int .i64 x.rule)∧w'.cell? ⟨g,i * 4+3,none⟩=some (.slice a2 x.tags.length b2)∧w'.cell? ⟨g,j * 4,none⟩=some (.int .i64 (zaZ rs y))∧w'.cell? ⟨g,j * 4+1,none⟩=some (.slice a3 (recA y.tags).length b3)∧w'.cell? ⟨g,j * 4+2,none⟩=some (.int .i64 y.rule)∧w'.cell? ⟨g,j * 4+3,none⟩=some (.slice a4 y.tags.length b4)) ((go_split_ands;refine ⟨?_,?_,?_,?_,?_,?_,?_,?_⟩ <;> first | (simp [*];done) | exact zaa hb' (by assumption)))
  (first | (go_at_call 44;refine (HA.out _ B1).mono ?_;rintro e w' ⟨rfl,hb'⟩))
 go_wp2_with fail
 go_ret
 exact ⟨rfl,B1.trans (hb'.mono (by simp))⟩
theorem EnP.mko {rs:List Ru}{w w':World}{base g:Nat}{x:EnX} (h:EnP rs w base x) (hm:MkO (some g) w w') {c:Array Value} (hg:w.heap[g]?=some (.cells c 123 (0,0))):EnP rs w' base x:=
 h.same (fun k _ hk=>hm.block k (zab hk) (fun e=>by injection e with e;subst e;exact zaA hg hk (by decide)))
theorem MkO.of_drew {b:Option Nat}{w w':World} (h:MkO b w.drew w'):MkO b w w':=MkO.trans (MkO.of_below (Below.refl _ _).drew) h
theorem zjU {rs:List Ru}{w:World}{base g c:Nat}{L:List EnX}{i:Nat}{y:EnX} (h:AgO rs w base (some ⟨g,0,none⟩) c L) (hi:i<L.length) (hy:EnP rs w base y) {P:World→Prop} (k:∀ wt,AgO rs wt base (some ⟨g,0,none⟩) c (L.set i y)→MkO (some g) w wt→P wt):P ((((w.setCell ⟨g,i * 4,none⟩ (.int .i64 (zaZ rs y.1))).setCell ⟨g,i * 4+1,none⟩ y.2.1).setCell ⟨g,i * 4+2,none⟩ (.int .i64 y.1.rule)).setCell ⟨g,i * 4+3,none⟩ y.2.2):=k _ (h.set hi hy).1 (h.set hi hy).2
set_option maxRecDepth 100000 in
set_option maxHeartbeats 3200000 in
theorem zc3 (rs:List Ru) (L:List EnX) (a:Option Addr) (c base i j:Nat) (x y:EnX) (w:World) (h:AgO rs w base a c L) (hi:L[i]?=some x) (hj:L[j]?=some y) :
  Calls Tryz.prog 202 #[.slice a L.length c,.int .i64 (i:Int),.int .i64 (j:Int)] w fun e w'=>(∃ v,e=.returned v)∧AgO rs w' base a c (zcb L i j x y)∧MkO (Value.slice a L.length c).ownBlock w w':=by
 obtain ⟨g,rfl,_,⟨c0,c1,c2,c3⟩,f0,f1,f2,f3⟩:=h.get hi
 obtain ⟨g',e',_,⟨d0,d1,d2,d3⟩,_⟩:=h.get hj
 cases e'
 have hx:=h.all x (List.mem_of_getElem? hi)
 have hy:=h.all y (List.mem_of_getElem? hj)
 have H0:=hidA h
 have HX:=hidA hx
 have HY:=hidA hy
 obtain ⟨a1,b1,e1⟩:=hx.r
 obtain ⟨a2,b2,e2⟩:=hx.t
 obtain ⟨a3,b3,e3⟩:=hy.r
 obtain ⟨a4,b4,e4⟩:=hy.t
 have E1:=hidA e1
 have E2:=hidA e2
 have E3:=hidA e3
 have E4:=hidA e4
 rw [e1] at c1
 rw [e2] at c3
 rw [e3] at d1
 rw [e4] at d3
 have il:i<L.length:=(List.getElem?_eq_some_iff.1 hi).1
 have jl:j<L.length:=(List.getElem?_eq_some_iff.1 hj).1
 have z0:(0:Int)≤(i:Int):=by omega
 have z1:(i:Int)<(L.length:Int):=by omega
 have z2:(0:Int)≤(j:Int):=by omega
 have z3:(j:Int)<(L.length:Int):=by omega
 have HJ:=hidA hj
 obtain ⟨cg,hcg⟩:=zai h.row (k:=g) rfl
 have HG:=hidA (show w.drew.heap[g]?=some (.cells cg 123 (0,0)) from hcg)
 clear hx hy h hi hj e1 e2 e3 e4 hcg
 go_enter Tryz.func202,Tryz.ntmps202
 go_wp2_with fail
 refine wp_region_noPanic ?_
 refine wp_region_held_drew (S:=(fun _=>True)) (by kernel_rfl) ?_ (fun hHeld=>?_)
 ·(try dsimp only)
  all_goals trivial
 refine tk 0 hHeld ?_
 (try simp only [pA,pZ,pS])
 refine tk 1 hHeld ?_
 (try simp only [pA,pZ,pS])
 refine tk 2 hHeld ?_
 (try simp only [pA,pZ,pS])
 refine tk 3 hHeld ?_
 (try simp only [pA,pZ,pS])
 refine tk 4 hHeld ?_
 (try simp only [pA,pZ,pS])
 refine tk 5 hHeld ?_
 (try simp only [pA,pZ,pS])
 refine tk 6 hHeld ?_
 (try simp only [pA,pZ,pS])
 refine tk 8 hHeld ?_
 (try simp only [pA,pZ,pS])
 refine tk 9 hHeld ?_
 (try simp only [pA,pZ,pS])
 refine tk 10 hHeld ?_
 (try simp only [pA,pZ,pS])
 refine wpAnyH_ready (rs:=[7,11]) (by kernel_rfl) (by simp) (AllReadyH.cons (List.getElem?_toArray.trans rfl) (fun K hK=>?_) (AllReadyH.cons (List.getElem?_toArray.trans rfl) (fun K hK=>?_) AllReadyH.nil))
 ·go_simp
  refine hK.out _ _ trivial (fun hHeld=>?_)
  clear hK K
  (first | simp only [pA,pZ,pS] | simp only [pN] | skip)
  refine wpAnyH_ready (rs:=[11]) (by kernel_rfl) (by simp) (AllReadyH.cons (List.getElem?_toArray.trans rfl) (fun K hK=>?_) AllReadyH.nil)
  go_simp
  refine hK.out _ _ trivial (fun hHeld=>?_)
  clear hK K
  (first | simp only [pA,pZ,pS] | simp only [pN] | skip)
  refine tk 12 hHeld ?_
  (try simp only [pA,pZ,pS])
  refine wpAnyH_ready (rs:=[13]) (by kernel_rfl) (by simp) (AllReadyH.cons (List.getElem?_toArray.trans rfl) (fun K hK=>?_) AllReadyH.nil)
  go_simp
  refine hK.out _ _ trivial (fun hHeld=>?_)
  clear hK K
  (first | simp only [pA,pZ,pS] | simp only [pN] | skip)
  rw [← E3.out,← E4.out]
  refine zjU (H0.out.bel (Below.refl _ _).drew) il (HY.out.bel (Below.refl _ _).drew) ?_
  intro w1 hA1 hm1
  have hyj:(L.set i y)[j]?=some y:=by by_cases e:i=j;subst e;rw [List.getElem?_set_self il];rw [List.getElem?_set_ne e];exact HJ.out
  obtain ⟨g1,eg,_,⟨p0,p1,p2,p3⟩,q0,q1,q2,q3⟩:=hA1.get hyj
  cases eg
  have HX1:=hidA ((HX.out.bel (Below.refl _ _).drew).mko hm1 HG.out)
  have A1:=hidA hA1
  have M1:=hidA hm1
  rw [E3.out] at p1
  rw [E4.out] at p3
  (try rw [E3.out])
  (try rw [E4.out])
  clear hA1 hm1 hyj
  refine tk 14 hHeld ?_
  (try simp only [pA,pZ,pS])
  refine wpAnyH_ready (rs:=[15]) (by kernel_rfl) (by simp) (AllReadyH.cons (List.getElem?_toArray.trans rfl) (fun K hK=>?_) AllReadyH.nil)
  go_simp
  refine hK.out _ _ trivial (fun hHeld=>?_)
  clear hK K
  (first | simp only [pA,pZ,pS] | simp only [pN] | skip)
  rw [← E1.out,← E2.out]
  refine zjU A1.out (by rw [List.length_set];exact jl) HX1.out ?_
  intro w2 hA2 hm2
  refine wpAnyH_done (by kernel_rfl) ?_ _
  refine NoPanic.normal ?_
  have M2:=hidA (M1.out.trans hm2)
  have A2:=hidA hA2
  clear hA2 hm2
  go_wp2_with fail
  go_end0
  exact ⟨⟨_,rfl⟩,A2.out,M2.out.of_drew⟩
 ·go_simp
  refine hK.out _ _ trivial (fun hHeld=>?_)
  clear hK K
  (first | simp only [pA,pZ,pS] | simp only [pN] | skip)
  refine wpAnyH_ready (rs:=[7]) (by kernel_rfl) (by simp) (AllReadyH.cons (List.getElem?_toArray.trans rfl) (fun K hK=>?_) AllReadyH.nil)
  go_simp
  refine hK.out _ _ trivial (fun hHeld=>?_)
  clear hK K
  (first | simp only [pA,pZ,pS] | simp only [pN] | skip)
  refine tk 12 hHeld ?_
  (try simp only [pA,pZ,pS])
  refine wpAnyH_ready (rs:=[13]) (by kernel_rfl) (by simp) (AllReadyH.cons (List.getElem?_toArray.trans rfl) (fun K hK=>?_) AllReadyH.nil)
  go_simp
  refine hK.out _ _ trivial (fun hHeld=>?_)
  clear hK K
  (first | simp only [pA,pZ,pS] | simp only [pN] | skip)
  rw [← E3.out,← E4.out]
  refine zjU (H0.out.bel (Below.refl _ _).drew) il (HY.out.bel (Below.refl _ _).drew) ?_
  intro w1 hA1 hm1
  have hyj:(L.set i y)[j]?=some y:=by by_cases e:i=j;subst e;rw [List.getElem?_set_self il];rw [List.getElem?_set_ne e];exact HJ.out
  obtain ⟨g1,eg,_,⟨p0,p1,p2,p3⟩,q0,q1,q2,q3⟩:=hA1.get hyj
  cases eg
  have HX1:=hidA ((HX.out.bel (Below.refl _ _).drew).mko hm1 HG.out)
  have A1:=hidA hA1
  have M1:=hidA hm1
  rw [E3.out] at p1
  rw [E4.out] at p3
  (try rw [E3.out])
  (try rw [E4.out])
  clear hA1 hm1 hyj
  refine tk 14 hHeld ?_
  (try simp only [pA,pZ,pS])
  refine wpAnyH_ready (rs:=[15]) (by kernel_rfl) (by simp) (AllReadyH.cons (List.getElem?_toArray.trans rfl) (fun K hK=>?_) AllReadyH.nil)
  go_simp
  refine hK.out _ _ trivial (fun hHeld=>?_)
  clear hK K
  (first | simp only [pA,pZ,pS] | simp only [pN] | skip)
  rw [← E1.out,← E2.out]
  refine zjU A1.out (by rw [List.length_set];exact jl) HX1.out ?_
  intro w2 hA2 hm2
  refine wpAnyH_done (by kernel_rfl) ?_ _
  refine NoPanic.normal ?_
  have M2:=hidA (M1.out.trans hm2)
  have A2:=hidA hA2
  clear hA2 hm2
  go_wp2_with fail
  go_end0
  exact ⟨⟨_,rfl⟩,A2.out,M2.out.of_drew⟩
end Go.Proofs.YtmmdlgjmplddiaaGreat
