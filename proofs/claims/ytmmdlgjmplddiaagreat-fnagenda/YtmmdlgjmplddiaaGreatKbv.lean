/-
  OUR OWN TEXT. Rd, Mark0, Mk, Hd, Wo, Ret, Chg, Mf, An6, Pq2, Pq3, Pq4, Pq5, Pq6, An7, Nd2, Nd4, Ag4, Ag5, Ag6, Ag7, Ag8, Nd3, one behind the other.
-/
import Derived.Test.YtmmdlgjmplddiaaGreatKaj
import Derived.Test.YtmmdlgjmplddiaaGreatKbr
import Derived.Deep.Slices
import Derived.Deep.Strs
import Derived.Lib.SmallJoins
import Derived.Test.YtmmdlgjmplddiaaGreatKas
import Derived.Test.YtmmdlgjmplddiaaGreatKbg
import Derived.Test.YtmmdlgjmplddiaaGreatKbs
import Derived.Deep.RegionHeld3
import Derived.Test.YtmmdlgjmplddiaaGreatAo4m
import Derived.Deep.DeepCutAuto
import Derived.Test.YtmmdlgjmplddiaaGreatMm1m
import Derived.Test.YtmmdlgjmplddiaaGreatKbq
import Derived.Test.YtmmdlgjmplddiaaGreatHwm
import Derived.Test.YtmmdlgjmplddiaaGreatKbl
namespace Go.Proofs.YtmmdlgjmplddiaaGreat
open Go.RowKit Go.Deep
section
variable {H : Type} {enc : TypeId × Value → H} {w : World} {base : Nat} {spare : Nat → Bool} {held : Bool}
end
end Go.Proofs.YtmmdlgjmplddiaaGreat
namespace Go.Proofs.YtmmdlgjmplddiaaGreat
open Go.RowKit
attribute [local go_sem ↓] Go.wp_at_zero Go.wp_at_succ
structure Mk (S:Nat→Prop) (w w':World):Prop where
 rest:Below 0 w w'
 block:∀ g,g<w.heap.size→¬ S g→w'.heap[g]?=w.heap[g]?
theorem Mk.refl (S:Nat→Prop) (w:World):Mk S w w:=⟨Below.refl _ _,fun _ _ _=>rfl⟩
theorem Mk.trans {S:Nat→Prop}{a b c:World} (h:Mk S a b) (k:Mk S b c):Mk S a c:=
 ⟨h.rest.trans k.rest,fun g hg hs=>(k.block g (Nat.lt_of_lt_of_le hg h.rest.size) hs).trans (h.block g hg hs)⟩
theorem Mk.mono {S T:Nat→Prop}{a b:World} (h:Mk S a b) (hst:∀ g,S g→T g):Mk T a b:=⟨h.rest,fun g hg ht=>h.block g hg (fun hs=>ht (hst g hs))⟩
theorem Mk.set {S:Nat→Prop}{w:World}{p:Addr} (hp:S p.block) (u:Value):Mk S w (w.setCell p u):=
 ⟨(Below.refl _ _).setCell (Nat.zero_le _) _,fun _ _ hs=>Below.heap_setCell _ _ _ _ (fun e=>hs (e ▸ hp))⟩
theorem Mk.below {S:Nat→Prop}{w w':World}{B:Nat} (h:Mk S w w') (hB:B≤w.heap.size) (hs:∀ g,S g→B≤g):Below B w w':=
 ⟨h.rest.os,h.rest.tape,h.rest.output,h.rest.size,fun k hk=>h.block k (by omega) (fun hS=>by have:=hs k hS;omega)⟩
end Go.Proofs.YtmmdlgjmplddiaaGreat
namespace Go.Proofs.YtmmdlgjmplddiaaGreat
open Go.RowKit
attribute [local go_sem ↓] Go.wp_at_zero Go.wp_at_succ
end Go.Proofs.YtmmdlgjmplddiaaGreat
namespace Go.Proofs.YtmmdlgjmplddiaaGreat
open Go.RowKit
attribute [local go_sem ↓] Go.wp_at_zero Go.wp_at_succ
theorem OFs.one {w:World}{base n:Nat}{v:Value}{fs:List F}{xs:List Value} (h:OFs w base v n fs xs):∀ u∈frows fs xs,u.oneCell'=true:=by
 intro u hu
 unfold frows at hu
 obtain ⟨p,hp,hu⟩:=List.mem_flatMap.1 hu
 obtain ⟨i,hi,he⟩:=List.getElem_of_mem hp
 have hz:(fs.zip xs)[i]?=some p:=by rw [List.getElem?_eq_getElem hi,he]
 obtain ⟨h1,h2⟩:=List.getElem?_zip_eq_some.1 hz
 obtain ⟨⟨a,c,e⟩,_⟩:=h.each i _ _ h1 h2
 rw [e] at hu
 exact zeh _ _ _ _ u hu
theorem zaH.take {w:World}{a:Option Addr}{fs:List F} (h:zaH w a fs) (k:Nat):zaH w a (fs.take k):=fun i f hf=>by
 rw [List.getElem?_take] at hf
 split at hf
 ·exact h i f hf
 ·cases hf
end Go.Proofs.YtmmdlgjmplddiaaGreat
namespace Go.Proofs.YtmmdlgjmplddiaaGreat
open Go.RowKit Go.Maps
attribute [local go_sem ↓] Go.wp_at_zero Go.wp_at_succ
theorem six {w:World}{b:Nat}{r:Array Value}{t:TypeId} (h:w.heap[b]?=some (.cells r t (0,0))) (hs:r.size=6):∃ x0 x1 x2 x3 x4 x5,w.cell? ⟨b,0,none⟩=some x0∧w.cell? ⟨b,1,none⟩=some x1∧w.cell? ⟨b,2,none⟩=some x2∧w.cell? ⟨b,3,none⟩=some x3∧w.cell? ⟨b,4,none⟩=some x4∧w.cell? ⟨b,5,none⟩=some x5 ∧
  w.frozen? ⟨b,0,none⟩=false∧w.frozen? ⟨b,1,none⟩=false∧w.frozen? ⟨b,2,none⟩=false∧w.frozen? ⟨b,3,none⟩=false∧w.frozen? ⟨b,4,none⟩=false∧w.frozen? ⟨b,5,none⟩=false:=by
 have hc:∀ j (hj:j<6),w.cell? ⟨b,j,none⟩=some (r[j]'(by omega)):=fun j hj=>by simp [World.cell?,h,show j<r.size by omega]
 have hf:∀ j,w.frozen? ⟨b,j,none⟩=false:=fun j=>by simp [World.frozen?,h]
 exact ⟨_,_,_,_,_,_,hc 0 (by omega),hc 1 (by omega),hc 2 (by omega),hc 3 (by omega),hc 4 (by omega),hc 5 (by omega),hf _,hf _,hf _,hf _,hf _,hf _⟩
def C6.cells (r:C6) (a:Option Addr) (c:Nat):List Value:=[.slice a r.fs.length c,.int .i64 r.nx,.int .i64 r.cp,.bool r.sg,.int .i64 r.code,.int .i64 r.tag]
theorem C6.one (r:C6) (a:Option Addr) (c:Nat):∀ v∈r.cells a c,v.oneCell'=true:=by
 intro v hv
 simp only [C6.cells,List.mem_cons,List.not_mem_nil,or_false] at hv
 rcases hv with rfl | rfl | rfl | rfl | rfl | rfl <;> rfl
theorem zlh:(Tryz.prog.info? 132).map (·.size)=some 6:=by kernel_rfl
theorem C6.load {w:World}{b:Nat}{r:C6}{a:Option Addr}{c:Nat}{fr:Nat × Nat} (h:w.heap[b]?=some (.cells (r.cells a c).toArray 132 fr)):(loadVar 132 ⟨b,0,none⟩).run Tryz.prog w=.ok (r.val a c) w:=
 run_loadVar_mid (P:=Tryz.prog) w b 0 132 (r.cells a c) _ (zdn h) Tryz.underlying132 rfl zlh
end Go.Proofs.YtmmdlgjmplddiaaGreat
namespace Go.Proofs.YtmmdlgjmplddiaaGreat
open Go.RowKit Go.Maps
attribute [local go_sem ↓] Go.wp_at_zero Go.wp_at_succ
end Go.Proofs.YtmmdlgjmplddiaaGreat
namespace Go.Proofs.YtmmdlgjmplddiaaGreat
open Go.RowKit
attribute [local go_sem ↓] Go.wp_at_zero Go.wp_at_succ
theorem OFs.marked {w w2:World}{base n:Nat}{v x:Value}{A B:List F}{f f':F}{X Y:List Value} (h:OFs w base v n (A ++ f :: B) (X ++ x :: Y)) (hA:X.length=A.length) (hlen:f'.slots.length=f.slots.length)
  (hv:w2.ownsRow base 42 3 v n (frows (A ++ f' :: B) (X ++ x :: Y))) (hx:w2.ownsRow base 109 3 x f'.slots.length (f'.slots.flatMap V.cells)) (hm:Mk (fun g=>v.ownBlock=some g∨x.ownBlock=some g) w w2):OFs w2 base v n (A ++ f' :: B) (X ++ x :: Y):=by
 have hp:=List.pairwise_append.1 h.pair
 have hother:∀ y:Value,y∈X∨y∈Y→∀ g,y.ownBlock=some g→w2.heap[g]?=w.heap[g]?:=by
  intro y hy g hg
  have hym:y∈X ++ x :: Y:=by rcases hy with hy | hy <;> simp [hy]
  refine hm.block g (h.range (.inr ⟨y,hym,hg⟩)).2 ?_
  rintro (e | e)
  ·exact h.apart y hym g e hg
  ·rcases hy with hy | hy
   ·exact hp.2.2 y hy x (by simp) g hg e
   ·exact (List.pairwise_cons.1 hp.2.1).1 y hy g e hg
 refine ⟨by rw [h.num];simp,by rw [h.len];simp,hv,?_,h.apart,h.pair⟩
 intro i q y hq hy
 rcases Nat.lt_trichotomy i A.length with hi | hi | hi
 ·rw [List.getElem?_append_left hi] at hq
  rw [List.getElem?_append_left (by omega)] at hy
  obtain ⟨h1,h2⟩:=h.each i q y (by rw [List.getElem?_append_left hi];exact hq) (by rw [List.getElem?_append_left (by omega)];exact hy)
  exact ⟨h1,zae h2 (hother y (.inl (List.mem_of_getElem? hy)))⟩
 ·subst hi
  rw [List.getElem?_append_right (Nat.le_refl _)] at hq
  rw [List.getElem?_append_right (by omega),hA] at hy
  simp at hq hy
  subst hq
  subst hy
  obtain ⟨⟨a,c,e⟩,_⟩:=h.each A.length f x (by simp) (by rw [List.getElem?_append_right (by omega),hA];simp)
  exact ⟨⟨a,c,by rw [e,hlen]⟩,hx⟩
 ·have e1:∀ u:F,(A ++ u :: B)[i]?=B[i - A.length - 1]?:=fun u=>by
   rw [List.getElem?_append_right (by omega),List.getElem?_cons,if_neg (by omega)]
  have e2:(X ++ x :: Y)[i]?=Y[i - A.length - 1]?:=by
   rw [List.getElem?_append_right (by omega),List.getElem?_cons,if_neg (by omega),hA]
  rw [e1] at hq
  rw [e2] at hy
  obtain ⟨h1,h2⟩:=h.each i q y (by rw [e1];exact hq) (by rw [e2];exact hy)
  exact ⟨h1,zae h2 (hother y (.inr (List.mem_of_getElem? hy)))⟩
end Go.Proofs.YtmmdlgjmplddiaaGreat
namespace Go.Proofs.YtmmdlgjmplddiaaGreat
open Go.RowKit Go.Maps
theorem zcF {n:Int} (h1:-9223372036854775808≤n) (h2:n≤9223372036854775807):(Lit.int .i64 n).wf=true:=by
 simp [Lit.wf,IntKind.min,IntKind.max,IntKind.signed,IntKind.bits]
 omega
theorem zfr {name:ByteArray}:∀ {l:List Tm}{s k:Nat},za6 name l s=some k→k<s+l.length
 | [],_,_,h=>by simp [za6] at h
 | t :: r,s,k,h=>by
  rw [zbi] at h
  split at h
  ·injection h with h
   subst h
   simp
  ·have:=zfr h
   simp
   omega
theorem zgn {ts:List Tm}:∀ {k:Nat}{u:Tt},u∈zah ts k→∃ i t,i<k∧ts[i]?=some t∧zbz ts i t=some u
 | 0,u,h=>by simp [zah] at h
 | k+1,u,h=>by
  unfold zah at h
  rcases List.mem_append.1 h with h | h
  ·obtain ⟨i,t,h1,h2,h3⟩:=zgn h
   exact ⟨i,t,by omega,h2,h3⟩
  ·cases ht:ts[k]? with
   | none=>rw [ht] at h;simp at h
   | some t=>
    rw [ht] at h
    simp at h
    exact ⟨k,t,by omega,ht,h⟩
theorem zkP {p:Pt} (hc:p.cls.size≤maxLen) (hv:∀ t∈p.terms,VOk t.val):AOk (zaE p):=by
 unfold zaE
 split
 ·rename_i hg
  have h6:=zi8 hg
  refine ⟨hc,zcF (n:=(p.terms.length:Int)) (by omega) (by omega),Nat.le_trans (zec _ _) h6,fun u hu=>?_⟩
  obtain ⟨i,t,hi,ht,hu⟩:=zgn hu
  have hgt:=zk6 hg ht
  have hvt:=hv t (List.mem_of_getElem? ht)
  have hop:1≤tmOp t∧tmOp t≤6:=by
   unfold tmOp
   split
   ·rename_i hk
    have hk3:t.kind=3:=by simpa using hk
    simp [gTm,hk3] at hgt
    omega
   ·omega
  have hopw:(Lit.int .i64 (tmOp t)).wf=true:=zcF (by omega) (by omega)
  have hiw:(Lit.int .i64 (i:Int)).wf=true:=zcF (by omega) (by omega)
  unfold zbz at hu
  split at hu
  ·cases hu
  ·split at hu
   ·injection hu with hu
    subst hu
    exact ⟨⟨hiw,hopw,(show (Lit.int .i64 (-1)).wf=true by decide),hvt⟩,by show tmOp t≠0;omega⟩
   ·cases he:earlier p.terms i t.var with
    | none=>rw [he] at hu;cases hu
    | some k=>
     rw [he] at hu
     injection hu with hu
     subst hu
     have hk:k<0+(p.terms.take i).length:=zfr he
     have hk6:k<6:=by simp at hk;omega
     exact ⟨⟨hiw,hopw,zcF (n:=(k:Int)) (by omega) (by omega),(show VOk zVa from ⟨by decide,by decide,by decide⟩)⟩,by show tmOp t≠0;omega⟩
 ·exact ⟨by decide,by decide,by simp,fun u hu=>by simp at hu⟩
def GB (w:World) (gb mb:Nat) (v:Value):Prop:=w.heap[gb]?=some (.cells #[.map (some mb),v] 105 (0,0))
def zlg (w:World) (b:Nat) (x:AlX) (i:Nat):Prop:=w.heap[b]?=some (.cells #[.string x.1.cls,.int .i64 x.1.arity,x.2,.int .i64 (i:Int),.slice none 0 0] 99 (0,0))
theorem GB.facts {w:World}{gb mb:Nat}{v:Value} (h:GB w gb mb v):(w.cell? ⟨gb,0,none⟩=some (.map (some mb))∧w.cell? ⟨gb,1,none⟩=some v)∧(∀ j,w.frozen? ⟨gb,j,none⟩=false)∧gb<w.heap.size:=by
 unfold GB at h
 refine ⟨⟨?_,?_⟩,fun j=>?_,zab h⟩ <;> simp [World.cell?,World.frozen?,h]
theorem GB.set1 {w:World}{gb mb:Nat}{v:Value} (h:GB w gb mb v) (x:Value):GB (w.setCell ⟨gb,1,none⟩ x) gb mb x:=by
 have:=zaf (i:=1) h x
 simpa [GB] using this
theorem zmN {P:World→Prop}{w:World}{gb mb:Nat}{v y:Value} (h0:GB w gb mb v) (h:∀ wt,GB wt gb mb y→Turned w wt gb→P wt):P (w.setCell ⟨gb,1,none⟩ y):=h _ (h0.set1 y) (Turned.setCells [y] 1 w gb)
def ptrs (bs:List Nat):List Value:=bs.map fun b=>.pointer (some ⟨b,0,none⟩)
structure NS (kl:Al→Lit) (w:World) (base gb mb:Nat) (la:Option Addr) (lc:Nat) (L:List AlX) (bs:List Nat) (D:DataW Unit):Prop where
 box:GB w gb mb (.slice la L.length lc)
 map:w.ownsMap Tryz.prog 153 ptrR mb L.length D
 inv:MIA kl (L.map Prod.fst) bs D
 row:w.ownsRow base 100 1 (.slice la L.length lc) L.length (ptrs bs)
 node:∀ i x b,L[i]?=some x→bs[i]?=some b→zlg w b x i∧base≤b
 als:∀ x∈L,AlP w base x
 pair:(L.map Prod.snd).Pairwise Apart
 gbase:base≤gb∧base≤mb
theorem zl9 {w:World}{k:TypeId}{b n:Nat}{D:DataW Unit} (h:w.ownsMap Tryz.prog k ptrR b n D):∃ es c,w.heap[b]?=some (.map es c):=by
 obtain ⟨es,clock,h1,_⟩:=h
 exact ⟨es,clock,h1⟩
theorem zcJ {w w':World}{k:TypeId}{b n:Nat}{D:DataW Unit} (h:w.ownsMap Tryz.prog k ptrR b n D) (hb:w'.heap[b]?=w.heap[b]?):w'.ownsMap Tryz.prog k ptrR b n D:=by
 obtain ⟨es,clock,h1,h2⟩:=h
 exact ⟨es,clock,hb.trans h1,h2⟩
theorem NS.bel {kl:Al→Lit}{w w':World}{base gb mb:Nat}{la:Option Addr}{lc:Nat}{L:List AlX}{bs:List Nat}{D:DataW Unit} (h:NS kl w base gb mb la lc L bs D) (hb:Below w.heap.size w w'):NS kl w' base gb mb la lc L bs D:=
 ⟨(hb.block gb (zab h.box)).trans h.box,zcJ h.map (hb.block mb h.map.lt),h.inv,zag h.row hb,fun i x b hx hb'=>⟨(hb.block b (zab (h.node i x b hx hb').1)).trans (h.node i x b hx hb').1,(h.node i x b hx hb').2⟩,fun x hx=>(h.als x hx).bel hb,h.pair,h.gbase⟩
structure Fr3 (gb mb:Nat) (row:Option Nat) (w w':World):Prop where
 rest:Below 0 w w'
 block:∀ k,k<w.heap.size→k≠gb→k≠mb→row≠some k→w'.heap[k]?=w.heap[k]?
theorem Fr3.of_below {gb mb:Nat}{row:Option Nat}{w w':World} (h:Below w.heap.size w w'):Fr3 gb mb row w w':=⟨h.mono (Nat.zero_le _),fun k hk _ _ _=>h.block k hk⟩
theorem Fr3.own {kl:Al→Lit}{w w':World}{base gb mb base':Nat}{la:Option Addr}{lc:Nat}{L:List AlX}{bs:List Nat}{D:DataW Unit}{e:TypeId}{m n:Nat}{v:Value}{xs:List Value} (hf:Fr3 gb mb (Value.slice la L.length lc).ownBlock w w') (h:w.ownsRow base' e m v n xs) (hN:NS kl w base gb mb la lc L bs D) (h1:105≠e) (h2:100≠e):w'.ownsRow base' e m v n xs:=
 zae h fun k hk=>by
  obtain ⟨c,hc⟩:=zai h hk
  refine hf.block k (h.lt k hk).2 (fun e=>?_) (fun e=>?_) (fun e=>?_)
  ·subst e
   exact zaA hN.box hc h1
  ·subst e
   obtain ⟨es,cl,hm⟩:=zl9 hN.map
   rw [hm] at hc
   cases hc
  ·obtain ⟨c',hc'⟩:=zai hN.row e
   exact zaA hc' hc h2
theorem Fr3.box {kl:Al→Lit}{w w':World}{base gb mb:Nat}{la:Option Addr}{lc:Nat}{L:List AlX}{bs:List Nat}{D:DataW Unit}{b:Nat}{c:Array Value}{t:TypeId}{fr:Nat × Nat} (hf:Fr3 gb mb (Value.slice la L.length lc).ownBlock w w') (h:w.heap[b]?=some (.cells c t fr)) (hN:NS kl w base gb mb la lc L bs D) (h1:105≠t) (h2:100≠t):w'.heap[b]?=some (.cells c t fr):=by
 refine (hf.block b (zab h) (fun e=>?_) (fun e=>?_) (fun e=>?_)).trans h
 ·subst e
  exact zaA hN.box h h1
 ·subst e
  obtain ⟨es,cl,hm⟩:=zl9 hN.map
  rw [hm] at h
  cases h
 ·obtain ⟨c',hc'⟩:=zai hN.row e
  exact zaA hc' h h2
theorem zov:(Tryz.prog.info? 100).map (fun i=>(i.zero,i.size,i.bytes))=some (some (.pointer none),1,8):=by kernel_rfl
theorem zn6 (w:World):(zeroValue 100).run Tryz.prog w=.ok (.pointer none) w:=by kernel_rfl
theorem NS.add {kl:Al→Lit} (K:KLA kl) {w w6 w7 w8:World}{base gb mb nb:Nat}{la la':Option Addr}{lc lc':Nat}{L:List AlX}{bs:List Nat}{D:DataW Unit}{x:AlX}{o:Obj}
  (h:NS kl w base gb mb la lc L bs D) (hx:AlP w base x) (hxw:∀ y∈L,Apart y.2 x.2) (hok:AOk x.1) (hno:¬ zbS x.1 (L.map Prod.fst)<(L.map Prod.fst).length)
  (hnode:zlg w nb x L.length) (hbnb:base≤nb)
  (ho6:w6.ownsMap Tryz.prog 153 ptrR mb (L.length+1) (D.put (kl x.1) (.lit (.int .i64 (nb:Int))))) (hg6:w.grownBy w6 (some mb))
  (ho7:w7.ownsRow base 100 1 (.slice la' (L.length+1) lc') (L.length+1) (ptrs bs ++ [.pointer (some ⟨nb,0,none⟩)])) (hg7:(w6.alloc o).grownBy w7 (Value.slice la L.length lc).ownBlock)
  (hG8:GB w8 gb mb (.slice la' (L.length+1) lc')) (ht8:Turned w7 w8 gb) :
  NS kl w8 base gb mb la' lc' (L ++ [x]) (bs ++ [nb]) (D.put (kl x.1) (.lit (.int .i64 (nb:Int))))∧Fr3 gb mb (Value.slice la L.length lc).ownBlock w w8:=by
 obtain ⟨es0,cl0,hm0⟩:=zl9 h.map
 have hs6:=hg6.size
 have hs7:=hg7.size
 simp at hs7
 -- a block that is none of the three stays
 have stay:∀ k,k<w.heap.size→k≠gb→k≠mb→(Value.slice la L.length lc).ownBlock≠some k→w8.heap[k]?=w.heap[k]?:=fun k hk h1 h2 h3=>by
  rw [ht8.block k h1,hg7.block k (by simp;omega) (fun e=>h3 e.symm),Below.heap_alloc _ _ _ (by omega),hg6.block k hk (fun e=>h2 (by injection e))]
 have hgm:gb≠mb:=fun e=>by have:=h.box;unfold GB at this;rw [e,hm0] at this;cases this
 have stayC:∀ (k:Nat) (c:Array Value) (t:TypeId) (fr:Nat × Nat),w.heap[k]?=some (.cells c t fr)→t≠105→t≠100→w8.heap[k]?=some (.cells c t fr):=fun k c t fr hk h1 h2=>by
  refine (stay k (zab hk) (fun e=>?_) (fun e=>?_) (fun e=>?_)).trans hk
  ·subst e
   exact zaA hk h.box h1
  ·subst e
   rw [hm0] at hk
   cases hk
  ·obtain ⟨c',hc'⟩:=zai h.row e
   exact zaA hk hc' h2
 have stayO:∀ {e:TypeId}{m:Nat}{v:Value}{n:Nat}{xs:List Value},w.ownsRow base e m v n xs→e≠105→e≠100→w8.ownsRow base e m v n xs:=fun ho h1 h2=>zae ho fun k hk=>by
  obtain ⟨c,hc⟩:=zai ho hk
  rw [stayC k _ _ _ hc h1 h2,hc]
 have hmr:∀ k,(Value.slice la L.length lc).ownBlock=some k→k≠mb:=fun k hk e=>by
  obtain ⟨c',hc'⟩:=zai h.row hk
  rw [e,hm0] at hc'
  cases hc'
 refine ⟨⟨?_,?_,?_,?_,?_,?_,?_,h.gbase⟩,⟨?_,stay⟩⟩
 ·simpa using hG8
 ·have:w8.ownsMap Tryz.prog 153 ptrR mb (L.length+1) (D.put (kl x.1) (.lit (.int .i64 (nb:Int)))):=by
   refine zcJ ho6 ?_
   have hlt:mb<w6.heap.size:=ho6.lt
   rw [ht8.block mb (fun e=>hgm e.symm),hg7.block mb (by simp;omega) (fun e=>hmr mb e.symm rfl),Below.heap_alloc _ _ _ hlt]
  simpa using this
 ·rw [List.map_append]
  exact h.inv.add K h.map.isMap hok hno
 ·have h7:w8.ownsRow base 100 1 (.slice la' (L.length+1) lc') (L.length+1) (ptrs bs ++ [.pointer (some ⟨nb,0,none⟩)]):=zae ho7 fun k hk=>ht8.block k (fun e=>by
   obtain ⟨c,hc⟩:=zai ho7 hk
   subst e
   have hG7:w7.heap[k]?=w6.heap[k]?:=by
    rw [hg7.block k (by have:=zab h.box;simp;omega) (fun e=>by obtain ⟨c',hc'⟩:=zai h.row e.symm;exact zaA h.box hc' (by decide)),Below.heap_alloc _ _ _ (by have:=zab h.box;omega)]
   rw [hG7,hg6.block k (zab h.box) (fun e=>hgm (by injection e))] at hc
   exact zaA h.box hc (by decide))
  simpa [ptrs] using h7
 ·intro i y b hy hb
  have hbl:=h.inv.len
  simp at hbl
  by_cases hi:i<L.length
  ·rw [List.getElem?_append_left hi] at hy
   rw [List.getElem?_append_left (by omega)] at hb
   exact ⟨stayC b _ _ _ (h.node i y b hy hb).1 (by decide) (by decide),(h.node i y b hy hb).2⟩
  ·have hil:i=L.length:=by
    have:=(List.getElem?_eq_some_iff.1 hy).1
    simp at this
    omega
   subst hil
   simp at hy
   subst hy
   rw [List.getElem?_append_right (by omega),hbl,Nat.sub_self] at hb
   simp at hb
   subst hb
   exact ⟨stayC nb _ _ _ hnode (by decide) (by decide),hbnb⟩
 ·intro y hy
  rcases List.mem_append.1 hy with hy | hy
  ·exact ⟨(h.als y hy).1,stayO (h.als y hy).2 (by decide) (by decide)⟩
  ·simp at hy
   subst hy
   exact ⟨hx.1,stayO hx.2 (by decide) (by decide)⟩
 ·rw [List.map_append,List.pairwise_append]
  refine ⟨h.pair,by simp,fun u hu v hv=>?_⟩
  obtain ⟨y,hy,rfl⟩:=List.mem_map.1 hu
  simp at hv
  subst hv
  exact hxw y hy
 ·refine ⟨?_,?_,?_,?_,fun k hk=>by omega⟩
  ·exact (ht8.os.trans hg7.os).trans hg6.os
  ·exact (ht8.tape.trans hg7.tape).trans hg6.tape
  ·exact (ht8.output.trans hg7.output).trans hg6.output
  ·rw [ht8.size]
   omega
end Go.Proofs.YtmmdlgjmplddiaaGreat
namespace Go.Proofs.YtmmdlgjmplddiaaGreat
theorem zlP {v o:V}:eqV v o=true ↔ v=o:=by
 unfold eqV
 constructor
 ·intro h
  simp only [Bool.and_eq_true,beq_iff_eq,decide_eq_true_eq] at h
  exact V.ext3 h.1 h.2.1 h.2.2
 ·rintro rfl
  simp
theorem zfQ (v o:V):meets 1 v o=decide (v=o):=by
 have:meets 1 v o=eqV v o:=by simp [meets]
 rw [this]
 by_cases h:v=o
 ·rw [decide_eq_true h];exact zlP.2 h
 ·rw [decide_eq_false h]
  cases he:eqV v o
  ·rfl
  ·exact absurd (zlP.1 he) h
def zbd (T:List F) (vs:List Vr) (ts:List Tm) (f:F) (i:Nat) (t:Tm):Bool:=
 (match zbz ts i t with | none=>true | some u=>zbx u f.slots) && (match jtOf vs ts i t with | none=>true | some u=>zaK T f u)
theorem zdc {ts:List Tm}{i:Nat}{t:Tm} (h:ts[i]?=some t) (hk:t.kind≠2) (name:ByteArray):earlier ts (i+1) name=earlier ts i name:=by
 rw [zbv h,if_neg (fun e=>hk (zbm.1 e).1)]
 cases earlier ts i name <;> rfl
theorem zeu {bs:List Bd}{ts:List Tm}{sl:List V}{i:Nat}{t:Tm}{v:V} (h:ts[i]?=some t) (hv:sl[i]?=some v) (hk:t.kind≠2):newB bs ts sl (i+1)=newB bs ts sl i:=by
 rw [zdR h hv,if_neg (fun e=>hk e.1),List.append_nil]
theorem zjx (vs:List V) (i:Nat):getI vs (i:Int)=vs[i]?:=by
 unfold getI
 rw [if_pos (by omega)]
 simp
theorem zex {sl:List V}{i:Nat}{v:V}{op:Int}{val:V} (h:sl[i]?=some v):zbx ⟨(i:Int),op, -1,val⟩ sl=meets op v val:=by
 unfold zbx
 simp only [zjx,h]
 rw [if_pos trivial]
theorem zgL {sl:List V}{i j:Nat}{v u:V}{op:Int}{val:V} (h:sl[i]?=some v) (hj:sl[j]?=some u):zbx ⟨(i:Int),op,(j:Int),val⟩ sl=meets op v u:=by
 unfold zbx
 simp only [zjx,h,hj]
 rw [if_neg (by omega)]
theorem zhR {T:List F}{f:F}{i:Nat}{v:V}{op:Int}{x:Vr} (h:f.slots[i]?=some v):zaK T f ⟨i,op,x.fact,x.slot⟩=meets op v (zdB T x):=by
 unfold zaK zdB
 simp only [h]
 rfl
theorem zdk {s:ByteArray}:s.toList.isEmpty=true ↔ s=⟨#[]⟩:=by
 constructor
 ·intro h
  have h2:(s.toList==(⟨#[]⟩:ByteArray).toList)=true:=by rw [List.isEmpty_iff.1 h,emM];rfl
  rw [zaL] at h2
  simpa using h2
 ·rintro rfl
  rw [emM];rfl
section
variable {T : List F} {vs : List Vr} {f : F} {ts : List Tm} {i : Nat} {t : Tm} {v : V}
theorem zjX (hl:ts.length=f.slots.length) (hi:i≤ts.length) (name:ByteArray):zbl (envB T vs ++ newB (envB T vs) ts f.slots i) name=(match zbl (envB T vs) name with | some x=>some x | none=>(earlier ts i name).bind (fun j=>f.slots[j]?)):=by
 rw [zdm]
 cases h:zbl (envB T vs) name with
 | some x=>rfl
 | none=>exact zgu hl h i hi
def Fits (T:List F) (vs:List Vr) (ts:List Tm) (f:F) (i:Nat):Prop:=∀ name x j,zbl (envB T vs) name=some x→earlier ts i name=some j→f.slots[j]?=some x
theorem zlc (hk:t.kind=0) (hvar:t.var=⟨#[]⟩) (ht:ts[i]?=some t) (hv:f.slots[i]?=some v) (hE:zaT vs ⟨#[]⟩=none) (H1:Fits T vs ts f i) :
  agT (envB T vs ++ newB (envB T vs) ts f.slots i) t v=(if zbd T vs ts f i t=true then some (envB T vs ++ newB (envB T vs) ts f.slots (i+1)) else none)∧(zbd T vs ts f i t=true→Fits T vs ts f (i+1)):=by
 have h1:zbz ts i t=none:=by unfold zbz;rw [if_pos (by simp [hk])]
 have h2:jtOf vs ts i t=none:=by unfold jtOf;rw [hvar,hE]
 have h3:zbd T vs ts f i t=true:=by unfold zbd;rw [h1,h2];rfl
 rw [if_pos h3,zeu ht hv (by omega)]
 refine ⟨?_,fun _ name x j hx hj=>H1 name x j hx (by rwa [zdc ht (by omega)] at hj)⟩
 unfold agT
 rw [if_neg (by omega),if_neg (by omega),if_neg (by omega)]
theorem zlW (hk:t.kind=1) (hvar:t.var=⟨#[]⟩) (ht:ts[i]?=some t) (hv:f.slots[i]?=some v) (hE:zaT vs ⟨#[]⟩=none) (H1:Fits T vs ts f i) :
  agT (envB T vs ++ newB (envB T vs) ts f.slots i) t v=(if zbd T vs ts f i t=true then some (envB T vs ++ newB (envB T vs) ts f.slots (i+1)) else none)∧(zbd T vs ts f i t=true→Fits T vs ts f (i+1)):=by
 have h1:zbz ts i t=some ⟨(i:Int),1, -1,t.val⟩:=by
  unfold zbz tmOp
  rw [if_neg (by simp [hk]),if_pos (zdk.2 hvar),if_neg (by simp [hk])]
 have h2:jtOf vs ts i t=none:=by unfold jtOf;rw [hvar,hE]
 have h3:zbd T vs ts f i t=decide (v=t.val):=by unfold zbd;rw [h1,h2];simp only [zex hv,zfQ,Bool.and_true]
 rw [h3,zeu ht hv (by omega)]
 refine ⟨?_,fun _ name x j hx hj=>H1 name x j hx (by rwa [zdc ht (by omega)] at hj)⟩
 unfold agT
 rw [if_pos hk]
 by_cases h:v=t.val
 ·rw [if_pos h,if_pos (decide_eq_true h)]
 ·rw [if_neg h,if_neg (by simpa using h)]
theorem zmg (hk:t.kind=3) (hl:ts.length=f.slots.length) (ht:ts[i]?=some t) (hv:f.slots[i]?=some v) (hE:zaT vs ⟨#[]⟩=none) (hK:t.var≠⟨#[]⟩→zaT vs t.var≠none∨earlier ts i t.var≠none) (H1:Fits T vs ts f i) :
  agT (envB T vs ++ newB (envB T vs) ts f.slots i) t v=(if zbd T vs ts f i t=true then some (envB T vs ++ newB (envB T vs) ts f.slots (i+1)) else none)∧(zbd T vs ts f i t=true→Fits T vs ts f (i+1)):=by
 have hil:i<ts.length:=(List.getElem?_eq_some_iff.1 ht).1
 rw [zeu ht hv (by omega)]
 refine ⟨?_,fun _ name x j hx hj=>H1 name x j hx (by rwa [zdc ht (by omega)] at hj)⟩
 unfold agT
 rw [if_neg (by omega),if_neg (by omega),if_pos hk]
 by_cases hvar:t.var=⟨#[]⟩
 ·have h1:zbz ts i t=some ⟨(i:Int),t.op, -1,t.val⟩:=by
   unfold zbz tmOp
   rw [if_neg (by simp [hk]),if_pos (zdk.2 hvar),if_pos (by simp [hk])]
  have h2:jtOf vs ts i t=none:=by unfold jtOf;rw [hvar,hE]
  have h3:zbd T vs ts f i t=meets t.op v t.val:=by unfold zbd;rw [h1,h2];simp only [zex hv,Bool.and_true]
  rw [h3,if_pos hvar]
 ·have hne:¬ t.var.toList.isEmpty=true:=fun h=>hvar (zdk.1 h)
  rw [if_neg hvar,zjX hl (Nat.le_of_lt hil),zc2]
  cases he:earlier ts i t.var with
  | some j=>
   have hj:j<f.slots.length:=by
    have:=zcM he
    simp at this
    omega
   have h1:zbz ts i t=some ⟨(i:Int),t.op,(j:Int),zVa⟩:=by
    unfold zbz tmOp
    rw [if_neg (by simp [hk]),if_neg hne,he]
    simp [hk]
   have h2:jtOf vs ts i t=none:=by
    unfold jtOf
    cases zaT vs t.var with
    | none=>rfl
    | some x=>simp only [he]
   have h3:zbd T vs ts f i t=meets t.op v f.slots[j]:=by unfold zbd;rw [h1,h2];simp only [zgL hv (List.getElem?_eq_getElem hj),Bool.and_true]
   have h4:((match (zaT vs t.var).map (zdB T) with | some x=>some x | none=>(some j).bind (fun j=>f.slots[j]?)).getD zVm)=f.slots[j]:=by
    cases hlk:zaT vs t.var with
    | none=>simp [hj]
    | some x=>
     have:=H1 t.var (zdB T x) j (by rw [zc2,hlk];rfl) he
     rw [List.getElem?_eq_getElem hj] at this
     injection this with this
     simp [this]
   rw [h3,h4]
  | none=>
   cases hlk:zaT vs t.var with
   | none=>rcases hK hvar with h | h;exact absurd hlk h;exact absurd he h
   | some x=>
    have h1:zbz ts i t=none:=by
     unfold zbz
     rw [if_neg (by simp [hk]),if_neg hne,he]
    have h2:jtOf vs ts i t=some ⟨i,t.op,x.fact,x.slot⟩:=by
     unfold jtOf tmOp
     rw [hlk]
     simp only [he]
     simp [hk]
    have h3:zbd T vs ts f i t=meets t.op v (zdB T x):=by unfold zbd;rw [h1,h2];simp only [zhR hv,Bool.true_and]
    rw [h3]
    rfl
theorem zk2 (hk:t.kind=2) (hvar:t.var≠⟨#[]⟩) (hl:ts.length=f.slots.length) (ht:ts[i]?=some t) (hv:f.slots[i]?=some v) (H1:Fits T vs ts f i) :
  agT (envB T vs ++ newB (envB T vs) ts f.slots i) t v=(if zbd T vs ts f i t=true then some (envB T vs ++ newB (envB T vs) ts f.slots (i+1)) else none)∧(zbd T vs ts f i t=true→Fits T vs ts f (i+1)):=by
 have hil:i<ts.length:=(List.getElem?_eq_some_iff.1 ht).1
 have hne:¬ t.var.toList.isEmpty=true:=fun h=>hvar (zdk.1 h)
 have hop:tmOp t=1:=by unfold tmOp;rw [if_neg (by simp [hk])]
 have ag:∀ out,agT out t v=(match zbl out t.var with | some old=>if old=v then some out else none | none=>some (out ++ [⟨t.var,v⟩])):=by
  intro out
  unfold agT
  rw [if_neg (by omega),if_pos hk]
  cases zbl out t.var <;> rfl
 rw [ag,zjX hl (Nat.le_of_lt hil),zdR ht hv]
 cases he:earlier ts i t.var with
 | some j=>
  have hj:j<f.slots.length:=by
   have:=zcM he
   simp at this
   omega
  have h1:zbz ts i t=some ⟨(i:Int),1,(j:Int),zVa⟩:=by
   unfold zbz
   rw [if_neg (by simp [hk]),if_neg hne,he,hop]
  have h2:jtOf vs ts i t=none:=by
   unfold jtOf
   cases zaT vs t.var with
   | none=>rfl
   | some x=>simp only [he]
  have h3:zbd T vs ts f i t=decide (v=f.slots[j]):=by unfold zbd;rw [h1,h2];simp only [zgL hv (List.getElem?_eq_getElem hj),zfQ,Bool.and_true]
  have h4:(match zbl (envB T vs) t.var with | some x=>some x | none=>(some j).bind (fun j=>f.slots[j]?))=some f.slots[j]:=by
   cases hlk:zbl (envB T vs) t.var with
   | none=>simp [hj]
   | some x=>
    have:=H1 t.var x j hlk he
    rw [List.getElem?_eq_getElem hj] at this
    injection this with this
    simp [this]
  rw [h4,h3,if_neg (c:=t.kind=2∧_) (fun e=>by cases e.2.2),List.append_nil]
  refine ⟨?_,fun _ name x j' hx hj'=>?_⟩
  ·by_cases h:v=f.slots[j]
   ·simp [h]
   ·show (if f.slots[j]=v then _ else _)=_
    rw [if_neg (fun e=>h e.symm),if_neg (by simpa using h)]
  ·rw [zbv ht] at hj'
   cases hen:earlier ts i name with
   | some j2=>rw [hen] at hj';injection hj' with hj';subst hj';exact H1 name x j2 hx hen
   | none=>
    rw [hen] at hj'
    simp only at hj'
    split at hj'
    ·rename_i hv2
     rw [(zbm.1 hv2).2] at he
     rw [he] at hen
     cases hen
    ·cases hj'
 | none=>
  have h1:zbz ts i t=none:=by
   unfold zbz
   rw [if_neg (by simp [hk]),if_neg hne,he]
  cases hlk:zaT vs t.var with
  | none=>
   have hlb:zbl (envB T vs) t.var=none:=by rw [zc2,hlk];rfl
   have h2:jtOf vs ts i t=none:=by unfold jtOf;rw [hlk]
   have h3:zbd T vs ts f i t=true:=by unfold zbd;rw [h1,h2];rfl
   rw [hlb,h3,if_pos rfl,if_pos ⟨hk,rfl,rfl⟩]
   refine ⟨by simp,fun _ name x j' hx hj'=>?_⟩
   rw [zbv ht] at hj'
   cases hen:earlier ts i name with
   | some j2=>rw [hen] at hj';injection hj' with hj';subst hj';exact H1 name x j2 hx hen
   | none=>
    rw [hen] at hj'
    simp only at hj'
    split at hj'
    ·rename_i hv2
     rw [← (zbm.1 hv2).2,hlb] at hx
     cases hx
    ·cases hj'
  | some x=>
   have hlb:zbl (envB T vs) t.var=some (zdB T x):=by rw [zc2,hlk];rfl
   have h2:jtOf vs ts i t=some ⟨i,1,x.fact,x.slot⟩:=by
    unfold jtOf
    rw [hlk]
    simp only [he,hop]
   have h3:zbd T vs ts f i t=decide (v=zdB T x):=by unfold zbd;rw [h1,h2];simp only [zhR hv,zfQ,Bool.true_and]
   rw [hlb,h3,if_neg (c:=t.kind=2∧_) (fun e=>by cases e.2.1),List.append_nil]
   refine ⟨?_,fun hok name y j' hx hj'=>?_⟩
   ·by_cases h:v=zdB T x
    ·simp [h]
    ·show (if zdB T x=v then _ else _)=_
     rw [if_neg (fun e=>h e.symm),if_neg (by simpa using h)]
   ·rw [zbv ht] at hj'
    cases hen:earlier ts i name with
    | some j2=>rw [hen] at hj';injection hj' with hj';subst hj';exact H1 name y j2 hx hen
    | none=>
     rw [hen] at hj'
     simp only at hj'
     split at hj'
     ·rename_i hv2
      injection hj' with hj'
      subst hj'
      rw [← (zbm.1 hv2).2,hlb] at hx
      injection hx with hx
      rw [hv,of_decide_eq_true hok,hx]
     ·cases hj'
end
end Go.Proofs.YtmmdlgjmplddiaaGreat
namespace Go.Proofs.YtmmdlgjmplddiaaGreat
section
variable {T : List F} {vs : List Vr} {f : F} {ts : List Tm}
def zdu (T:List F) (vs:List Vr) (ts:List Tm) (f:F):Nat→Bool
 | 0=>true
 | i+1=>zdu T vs ts f i && (match ts[i]? with | none=>true | some t=>zbd T vs ts f i t)
theorem zfu {i:Nat}{t:Tm} (h:ts[i]?=some t):zdu T vs ts f (i+1)=(zdu T vs ts f i && zbd T vs ts f i t):=by simp [zdu,h]
theorem zfL {i:Nat}:∀ n,i≤n→zdu T vs ts f n=true→zdu T vs ts f i=true
 | 0,h,hn=>by
  have:i=0:=by omega
  subst this
  exact hn
 | n+1,h,hn=>by
  by_cases he:i=n+1
  ·subst he;exact hn
  ·simp only [zdu,Bool.and_eq_true] at hn
   exact zfL n (by omega) hn.1
theorem zhJ:∀ n,zdu T vs ts f n=((zah ts n).all (fun t=>zbx t f.slots) && (zaz vs ts n).all (zaK T f))
 | 0=>rfl
 | n+1=>by
  simp only [zdu,zah,zaz,List.all_append]
  rw [zhJ n]
  cases ts[n]? with
  | none=>simp
  | some t=>
   simp only [zbd]
   cases zbz ts n t <;> cases jtOf vs ts n t <;> simp [Bool.and_assoc,Bool.and_left_comm,Bool.and_comm]
theorem zlt {s:ByteArray} (h:gSym s.data.toList=true):s≠⟨#[]⟩:=by
 rintro rfl
 revert h
 decide
theorem zni {i:Nat}{t:Tm}{v:V} (hg:gTm t=true) (hl:ts.length=f.slots.length) (ht:ts[i]?=some t) (hv:f.slots[i]?=some v) (hE:zaT vs ⟨#[]⟩=none) (hK:t.kind=3→t.var≠⟨#[]⟩→zaT vs t.var≠none∨earlier ts i t.var≠none) (H1:Fits T vs ts f i) :
  agT (envB T vs ++ newB (envB T vs) ts f.slots i) t v=(if zbd T vs ts f i t=true then some (envB T vs ++ newB (envB T vs) ts f.slots (i+1)) else none)∧(zbd T vs ts f i t=true→Fits T vs ts f (i+1)):=by
 unfold gTm at hg
 by_cases h0:t.kind=0
 ·rw [if_pos (by simpa using h0)] at hg
  simp only [Bool.and_eq_true] at hg
  exact zlc h0 (zdk.1 hg.2.1) ht hv hE H1
 rw [if_neg (by simpa using h0)] at hg
 by_cases h1:t.kind=1
 ·rw [if_pos (by simpa using h1)] at hg
  simp only [Bool.and_eq_true] at hg
  exact zlW h1 (zdk.1 hg.2.1) ht hv hE H1
 rw [if_neg (by simpa using h1)] at hg
 by_cases h2:t.kind=2
 ·rw [if_pos (by simpa using h2)] at hg
  simp only [Bool.and_eq_true] at hg
  exact zk2 h2 (zlt hg.2.1) hl ht hv H1
 rw [if_neg (by simpa using h2)] at hg
 by_cases h3:t.kind=3
 ·exact zmg h3 hl ht hv hE (hK h3) H1
 ·rw [if_neg (by simpa using h3)] at hg
  cases hg
theorem zkT (hg:∀ t∈ts,gTm t=true) (hl:ts.length=f.slots.length) (hE:zaT vs ⟨#[]⟩=none) (hK:∀ i t,ts[i]?=some t→t.kind=3→t.var≠⟨#[]⟩→zaT vs t.var≠none∨earlier ts i t.var≠none):∀ (d i:Nat),i+d=ts.length→zdu T vs ts f i=true→Fits T vs ts f i →
  agGo (envB T vs ++ newB (envB T vs) ts f.slots i) (ts.drop i) (f.slots.drop i)=(if zdu T vs ts f ts.length=true then some (envB T vs ++ newB (envB T vs) ts f.slots ts.length) else none)
 | 0,i,hi,hok,_=>by
  have:i=ts.length:=by omega
  subst this
  rw [if_pos hok,List.drop_eq_nil_of_le (Nat.le_refl _)]
  rfl
 | d+1,i,hi,hok,hf=>by
  obtain ⟨t,ht⟩:∃ t,ts[i]?=some t:=⟨ts[i],by simp⟩
  obtain ⟨v,hv⟩:∃ v,f.slots[i]?=some v:=⟨f.slots[i],by simp⟩
  obtain ⟨h1,h2⟩:=zni (T:=T) (hg t (List.mem_of_getElem? ht)) hl ht hv hE (hK i t ht) hf
  rw [zak ht,zak hv,zdS,h1]
  by_cases hk:zbd T vs ts f i t=true
  ·rw [if_pos hk]
   exact zkT hg hl hE hK d (i+1) (by omega) (by rw [zfu ht,hok,hk];rfl) (h2 hk)
  ·rw [if_neg hk,if_neg (fun hn=>hk (by have:=zfL (i:=i+1) ts.length (by omega) hn;rw [zfu ht,hok] at this;simpa using this))]
theorem zm4 {p:Pt} (hg:gPt p=true) (hE:zaT vs ⟨#[]⟩=none) (hK:∀ i t,p.terms[i]?=some t→t.kind=3→t.var≠⟨#[]⟩→zaT vs t.var≠none∨earlier p.terms i t.var≠none) :
  agree p f (envB T vs)=(if (passes (zaE p) f && (zaz vs p.terms p.terms.length).all (zaK T f))=true then some (envB T vs ++ newB (envB T vs) p.terms f.slots p.terms.length) else none):=by
 have hal:zaE p=⟨p.cls,(p.terms.length:Int),zah p.terms p.terms.length⟩:=if_pos hg
 have hgt:∀ t∈p.terms,gTm t=true:=by
  unfold gPt at hg
  simp only [Bool.and_eq_true] at hg
  exact List.all_eq_true.1 hg.2.2
 unfold agree
 rw [hal]
 by_cases hc:p.cls=f.cls∧p.terms.length=f.slots.length
 ·have hp:passes ⟨p.cls,(p.terms.length:Int),zah p.terms p.terms.length⟩ f=(zah p.terms p.terms.length).all (fun t=>zbx t f.slots):=by
   unfold passes
   rw [decide_eq_true (by rw [hc.1]),decide_eq_true (by simp;omega)]
   simp
  rw [if_pos hc,hp,← zhJ]
  have:=zkT (T:=T) hgt hc.2 hE hK p.terms.length 0 (by omega) rfl (fun name x j _ h=>by simp [earlier,za6] at h)
  simpa [newB] using this
 ·rw [if_neg hc]
  have hp:passes ⟨p.cls,(p.terms.length:Int),zah p.terms p.terms.length⟩ f=false:=by
   unfold passes
   by_cases h1:p.cls=f.cls
   ·rw [decide_eq_false (p:=(f.slots.length:Int)=_) (by simp;intro e;exact hc ⟨h1,by omega⟩)]
    simp
   ·rw [decide_eq_false (p:=f.cls.toList=_) (by
     intro e
     have h2:(f.cls.toList==p.cls.toList)=true:=by simpa using e
     rw [zaL] at h2
     exact h1 (by simpa using (Eq.symm (by simpa using h2:f.cls=p.cls))))]
    rfl
  rw [hp]
  rfl
end
end Go.Proofs.YtmmdlgjmplddiaaGreat
namespace Go.Proofs.YtmmdlgjmplddiaaGreat
theorem zeL (s:ByteArray) (b:List Vr):∀ a:List Vr,zaT (a ++ b) s=(match zaT a s with | some x=>some x | none=>zaT b s)
 | []=>rfl
 | x :: r=>by
  rw [List.cons_append,zcX,zcX]
  by_cases h:x.name=s
  ·rw [if_pos h,if_pos h]
  ·rw [if_neg h,if_neg h];exact zeL s b r
section
variable {T : List F} {vs : List Vr} {f : F} {ts : List Tm} {n : Nat}
theorem zcx (name:ByteArray):∀ i,i≤ts.length→((zaT (zar vs ts n i) name=none) ↔ (zaT vs name=none∧earlier ts i name=none))
 | 0,_=>by simp [zar,earlier,za6]
 | i+1,hi=>by
  obtain ⟨t,ht⟩:∃ t,ts[i]?=some t:=⟨ts[i],by simp⟩
  have ih:=zcx name i (by omega)
  have iht:(zaT (zar vs ts n i) t.var=none) ↔ (zaT vs t.var=none∧earlier ts i t.var=none):=zcx t.var i (by omega)
  rw [zcu ht,zbv ht]
  by_cases h:t.kind=2∧zaT (zar vs ts n i) t.var=none
  ·rw [if_pos h,zeL]
   cases hb:zaT (zar vs ts n i) name with
   | some x=>
    have hn:¬ (zaT vs name=none∧earlier ts i name=none):=fun e=>by rw [ih.2 e] at hb;cases hb
    constructor
    ·intro e;cases e
    ·rintro ⟨e1,e2⟩
     exfalso
     apply hn
     refine ⟨e1,?_⟩
     cases he:earlier ts i name with
     | none=>rfl
     | some j=>rw [he] at e2;cases e2
   | none=>
    obtain ⟨h1,h2⟩:=ih.1 hb
    rw [h2]
    by_cases hv:t.var=name
    ·rw [if_pos (zbm.2 ⟨h.1,hv⟩)]
     simp [zaT,hv]
    ·rw [if_neg (fun e=>hv (zbm.1 e).2)]
     simp [zaT,hv,h1]
  ·rw [if_neg h,ih]
   constructor
   ·rintro ⟨h1,h2⟩
    refine ⟨h1,?_⟩
    rw [h2]
    refine if_neg (fun e=>h ?_)
    obtain ⟨k2,kv⟩:=zbm.1 e
    subst kv
    exact ⟨k2,iht.2 ⟨h1,h2⟩⟩
   ·rintro ⟨h1,h2⟩
    refine ⟨h1,?_⟩
    cases he:earlier ts i name with
    | none=>rfl
    | some j=>rw [he] at h2;cases h2
theorem ziQ (T:List F) (a b:List Vr):envB T (a ++ b)=envB T a ++ envB T b:=by simp [envB]
theorem zhI {name:ByteArray}:(zbl (envB T vs) name=none) ↔ zaT vs name=none:=by
 rw [zc2]
 cases zaT vs name <;> simp
theorem zlD {i:Nat}{v:V} (name:ByteArray) (hv:f.slots[i]?=some v):zdB (T ++ [f]) ⟨name,T.length,i⟩=v:=by
 unfold zdB
 simp [hv]
theorem zmr {x:Vr} (hx:x.fact<T.length):zdB (T ++ [f]) x=zdB T x:=by
 unfold zdB
 rw [List.getElem?_append_left hx]
theorem zna (h:∀ x∈vs,x.fact<T.length):envB (T ++ [f]) vs=envB T vs:=by
 unfold envB
 exact List.map_congr_left (fun x hx=>by rw [zmr (h x hx)])
theorem zif (hl:ts.length=f.slots.length) (h:∀ x∈vs,x.fact<T.length):∀ i,i≤ts.length→envB (T ++ [f]) (zar vs ts T.length i)=envB T vs ++ newB (envB T vs) ts f.slots i
 | 0,_=>by simp [zar,newB,zna h]
 | i+1,hi=>by
  obtain ⟨t,ht⟩:∃ t,ts[i]?=some t:=⟨ts[i],by simp⟩
  obtain ⟨v,hv⟩:∃ v,f.slots[i]?=some v:=⟨f.slots[i],by simp⟩
  have ih:=zif hl h i (by omega)
  have hb:=zcx (vs:=vs) (ts:=ts) (n:=T.length) t.var i (by omega)
  rw [zcu ht,zdR ht hv]
  by_cases hc:t.kind=2∧zaT (zar vs ts T.length i) t.var=none
  ·rw [if_pos hc,ziQ,ih,if_pos ⟨hc.1,zhI.2 (hb.1 hc.2).1,(hb.1 hc.2).2⟩,List.append_assoc]
   congr 2
   simp [envB,zlD t.var hv]
  ·rw [if_neg hc,ih,if_neg (fun e=>hc ⟨e.1,hb.2 ⟨zhI.1 e.2.1,e.2.2⟩⟩),List.append_nil]
theorem zcY (h:∀ x∈vs,x.fact<n):∀ i,∀ x∈zar vs ts n i,x.fact<n+1
 | 0,x,hx=>by have:=h x hx;omega
 | i+1,x,hx=>by
  simp only [zar] at hx
  cases ht:ts[i]? with
  | none=>rw [ht] at hx;exact zcY h i x hx
  | some t=>
   rw [ht] at hx
   simp only at hx
   split at hx
   ·rcases List.mem_append.1 hx with hx | hx
    ·exact zcY h i x hx
    ·simp at hx
     subst hx
     simp
   ·exact zcY h i x hx
end
end Go.Proofs.YtmmdlgjmplddiaaGreat
namespace Go.Proofs.YtmmdlgjmplddiaaGreat
structure Cp where
 neg:Bool
 at_:Nat
 alpha:Al
 tests:List Jt
def zaF:List Pt→List Vr→Nat→List Cp
 | [],_,_=>[]
 | p :: ps,vs,n=>⟨p.neg,n,zaE p,zaz vs p.terms p.terms.length⟩ :: (if p.neg=true then zaF ps vs n else zaF ps (zar vs p.terms n p.terms.length) (n+1))
def KnR:List Pt→List Vr→Nat→Prop
 | [],_,_=>True
 | p :: ps,vs,n=>gPt p=true∧(∀ i t,p.terms[i]?=some t→t.kind=3→t.var≠⟨#[]⟩→zaT vs t.var≠none∨earlier p.terms i t.var≠none)∧(if p.neg=true then KnR ps vs n else KnR ps (zar vs p.terms n p.terms.length) (n+1))
def lets (c:Cp) (T:List F) (f:F):Bool:=passes c.alpha f && c.tests.all (zaK T f)
def exts:List Cp→List F→List F→List (List F)
 | [],_,T=>[T]
 | c :: cs,fs,T=>if c.neg=true then (if fs.any (lets c T)=true then [] else exts cs fs T) else (fs.filter (lets c T)).flatMap (fun f=>exts cs fs (T ++ [f]))
theorem zeU (fs:List F):∀ (ps:List Pt) (m:Nat),(allM ps fs [] m).1=[]
 | [],_=>rfl
 | p :: ps,m=>by
  simp only [allM]
  exact zeU fs ps _
theorem ze2 (fs:List F):∀ (ps:List Pt) (xs:List Pm) (m m':Nat),(allM ps fs xs m).1=(allM ps fs xs m').1
 | [],_,_,_=>rfl
 | p :: ps,xs,m,m'=>by
  simp only [allM]
  exact ze2 fs ps _ _ _
theorem zfJ (fs:List F):∀ (ps:List Pt) (xs ys:List Pm) (m:Nat),(allM ps fs (xs ++ ys) m).1=(allM ps fs xs m).1 ++ (allM ps fs ys m).1
 | [],_,_,_=>rfl
 | p :: ps,xs,ys,m=>by
  simp only [allM]
  have h:zbc p fs (xs ++ ys)=zbc p fs xs ++ zbc p fs ys:=by unfold zbc;exact List.flatMap_append
  rw [h,zfJ fs ps,ze2 fs ps _ _ (m+(zbc p fs xs).length),ze2 fs ps (zbc p fs ys) _ (m+(zbc p fs ys).length)]
theorem zfi (fs:List F) (ps:List Pt) (m:Nat):∀ xs:List Pm,(allM ps fs xs m).1=xs.flatMap (fun x=>(allM ps fs [x] 0).1)
 | []=>by rw [zeU];rfl
 | x :: r=>by
  rw [show x :: r=[x] ++ r from rfl,zfJ,zfi fs ps m r,ze2 fs ps [x] m 0]
  simp
theorem zdb {ts:List Tm} (hg:∀ t∈ts,gTm t=true):∀ i,i≤ts.length→earlier ts i ⟨#[]⟩=none
 | 0,_=>rfl
 | i+1,hi=>by
  obtain ⟨t,ht⟩:∃ t,ts[i]?=some t:=⟨ts[i],by simp⟩
  rw [zbv ht,zdb hg i (by omega)]
  refine if_neg (fun e=>?_)
  obtain ⟨k2,kv⟩:=zbm.1 e
  have:=hg t (List.mem_of_getElem? ht)
  unfold gTm at this
  rw [if_neg (by simp [k2]),if_neg (by simp [k2]),if_pos (by simp [k2])] at this
  simp only [Bool.and_eq_true] at this
  exact zlt this.2.1 kv
theorem zh4 {p:Pt} (h:gPt p=true):∀ t∈p.terms,gTm t=true:=by
 unfold gPt at h
 simp only [Bool.and_eq_true] at h
 exact List.all_eq_true.1 h.2.2
theorem ziC {p:Pt}{T:List F}{vs:List Vr} (hg:gPt p=true) (hE:zaT vs ⟨#[]⟩=none) (hK:∀ i t,p.terms[i]?=some t→t.kind=3→t.var≠⟨#[]⟩→zaT vs t.var≠none∨earlier p.terms i t.var≠none) (hT:∀ x∈vs,x.fact<T.length) (c:Cp) (hc1:c.alpha=zaE p) (hc2:c.tests=zaz vs p.terms p.terms.length) :
  ∀ fs:List F,hits p ⟨T.map (·.tag),envB T vs⟩ fs=(fs.filter (lets c T)).map (fun f=>⟨(T ++ [f]).map (·.tag),envB (T ++ [f]) (zar vs p.terms T.length p.terms.length)⟩)
 | []=>rfl
 | f :: r=>by
  have ih:=ziC hg hE hK hT c hc1 hc2 r
  have ha:=zm4 (T:=T) (f:=f) hg hE hK
  have hl:lets c T f=(passes (zaE p) f && (zaz vs p.terms p.terms.length).all (zaK T f)):=by unfold lets;rw [hc1,hc2]
  rw [← hl] at ha
  simp only [hits]
  rw [ih,ha]
  by_cases h:lets c T f=true
  ·have hlen:p.terms.length=f.slots.length:=by
    rw [hl,Bool.and_eq_true] at h
    have h1:=h.1
    rw [show zaE p=⟨p.cls,(p.terms.length:Int),zah p.terms p.terms.length⟩ from if_pos hg] at h1
    unfold passes at h1
    simp only [Bool.and_eq_true,decide_eq_true_eq] at h1
    omega
   rw [if_pos h,List.filter_cons_of_pos h,List.map_cons,zif hlen hT p.terms.length (Nat.le_refl _)]
   simp
  ·rw [if_neg h,List.filter_cons_of_neg h]
   rfl
theorem zhq (fs:List F):∀ (ps:List Pt) (T:List F) (vs:List Vr) (m:Nat),KnR ps vs T.length→zaT vs ⟨#[]⟩=none→(∀ x∈vs,x.fact<T.length) →
  (allM ps fs [⟨T.map (·.tag),envB T vs⟩] m).1.map (·.tags)=(exts (zaF ps vs T.length) fs T).map (fun U=>U.map (·.tag))
 | [],T,vs,m,_,_,_=>rfl
 | p :: ps,T,vs,m,hk,hE,hT=>by
  obtain ⟨hg,hK,hrest⟩:=hk
  have hh:=ziC hg hE hK hT ⟨p.neg,T.length,zaE p,zaz vs p.terms p.terms.length⟩ rfl rfl fs
  simp only [allM,zaF,exts]
  have hn:zbc p fs [⟨T.map (·.tag),envB T vs⟩]=zcn p fs ⟨T.map (·.tag),envB T vs⟩:=by simp [zbc]
  rw [hn]
  unfold zcn
  by_cases hneg:p.neg=true
  ·rw [if_pos hneg,if_pos hneg,if_pos hneg]
   rw [if_pos hneg] at hrest
   rw [hh]
   by_cases ha:fs.any (lets ⟨p.neg,T.length,zaE p,zaz vs p.terms p.terms.length⟩ T)=true
   ·rw [if_pos ha,if_neg (by
     obtain ⟨f,hf,hf2⟩:=List.any_eq_true.1 ha
     have:=List.length_pos_of_mem (List.mem_filter.2 ⟨hf,hf2⟩)
     rw [List.length_map]
     omega),zeU]
    rfl
   ·rw [if_neg ha,if_pos (by
     rw [List.length_map,List.length_eq_zero_iff,List.filter_eq_nil_iff]
     intro f hf h2
     exact ha (List.any_eq_true.2 ⟨f,hf,h2⟩))]
    exact zhq fs ps T vs _ hrest hE hT
  ·rw [if_neg hneg,if_neg hneg,if_neg hneg]
   rw [if_neg hneg] at hrest
   rw [hh,zfi,List.flatMap_map,List.map_flatMap,List.map_flatMap]
   congr 1
   funext f
   have hE2:zaT (zar vs p.terms T.length p.terms.length) ⟨#[]⟩=none:=(zcx _ _ (Nat.le_refl _)).2 ⟨hE,zdb (zh4 hg) _ (Nat.le_refl _)⟩
   have:=zhq fs ps (T ++ [f]) (zar vs p.terms T.length p.terms.length) 0 (by simpa using hrest) hE2 (fun x hx=>by simpa using zcY hT p.terms.length x hx)
   simpa using this
end Go.Proofs.YtmmdlgjmplddiaaGreat
namespace Go.Proofs.YtmmdlgjmplddiaaGreat
theorem zed:∀ (ps:List Pt) (vs:List Vr) (n:Nat),(zaF ps vs n).length=ps.length
 | [],_,_=>rfl
 | p :: ps,vs,n=>by
  simp only [zaF,List.length_cons]
  split
  ·rw [zed ps vs n]
  ·rw [zed ps _ (n+1)]
end Go.Proofs.YtmmdlgjmplddiaaGreat
namespace Go.Proofs.YtmmdlgjmplddiaaGreat
open Go.RowKit Go.Maps
attribute [local go_sem ↓] Go.wp_at_zero Go.wp_at_succ
def zo8 (kl:Al→Lit) (base gb mb:Nat) (la:Option Addr) (lc:Nat) (L:List AlX) (bs:List Nat) (p:Pt) (w:World) (e:Ending) (w':World):Prop:=
 ∃ la' lc' L' bs' D' b,e=.returned (.pointer (some ⟨b,0,none⟩))∧NS kl w' base gb mb la' lc' L' bs' D'∧L'.map Prod.fst=addA (L.map Prod.fst) (zaE p)∧bs'[zbS (zaE p) (L.map Prod.fst)]?=some b∧Fr3 gb mb (Value.slice la L.length lc).ownBlock w w'∧(∀ (i n:Nat),bs[i]?=some n→bs'[i]?=some n)∧(∀ g,(Value.slice la' L'.length lc').ownBlock=some g→(Value.slice la L.length lc).ownBlock=some g∨w.heap.size≤g)
theorem Fr3.trans_below {gb mb:Nat}{row:Option Nat}{u v w:World} (h:Below u.heap.size u v) (k:Fr3 gb mb row v w):Fr3 gb mb row u w:=⟨(h.mono (Nat.zero_le _)).trans k.rest,fun j hj h1 h2 h3=>(k.block j (Nat.lt_of_lt_of_le hj h.size) h1 h2 h3).trans (h.block j hj)⟩
theorem znq {P:World→Prop}{w0 u:World}{o:Obj} (hu:Below w0.heap.size w0 u) (hq:u.heap[w0.heap.size]?=some o) (h:∀ wt,Below w0.heap.size w0 wt→wt.heap[w0.heap.size]?=some o→P wt):P u:=h u hu hq
set_option maxRecDepth 100000 in
set_option maxHeartbeats 6400000 in
theorem zpp (kl:Al→Lit) (K:KLA kl) (p:Pt) (a_t:Option Addr) (c_t:Nat) {q:Option Nat} (base gb mb:Nat) (la:Option Addr) (lc:Nat) (L:List AlX) (bs:List Nat) (D:DataW Unit) (w:World) (hN:NS kl w base gb mb la lc L bs D) (h_t:zcl q w a_t p.terms) (hcl:p.cls.size≤maxLen) (hts:zbu Tm.le maxLen p.terms) (htl:p.terms.length≤1048576) (hcp:p.terms.length≤c_t) (hvo:∀ t∈p.terms,VOk t.val) (hL:L.length≤1000) (hbase:base≤w.heap.size) :
  Calls Tryz.prog 32 #[.pointer (some ⟨gb,0,none⟩),.agg #[.bool p.neg,.string p.cls,.slice a_t p.terms.length c_t]] w (zo8 kl base gb mb la lc L bs p w):=by
 have HN:=zbt hN
 have HT:=zbt h_t
 have HTS:=zbt hts
 have HX:=zbt (zkP hcl hvo)
 have HA:=zbt (fun o=>(Below.refl _ _).alloc (Nat.le_refl _) o:∀ o,Below w.heap.size w (w.alloc o))
 have hu1:=Tryz.underlying153
 clear hN h_t hts hvo
 go_enter Tryz.func32,Tryz.ntmps32
 go_wp2_with fail
 refine (ziq p a_t c_t _ (HT.out.below (HA.out _)) hcl HTS.out htl hcp).mono ?_
 rintro e w1 ⟨⟨a1,c1,rfl,ho1⟩,hb1⟩
 have N1:=zbt ((HN.out.bel (HA.out _)).bel hb1)
 have B1:=zbt ((HA.out _).trans (hb1.mono (HA.out _).size))
 have hs1:=hb1.size
 simp at hs1
 have XO1:=zbt (zan ho1 (show w.heap.size≤_ by simp))
 obtain ⟨X,hX⟩:∃ X,X=zaE p:=⟨_,rfl⟩
 have hX6:X.tests.length≤6:=by rw [hX];exact zc7 p
 rw [← hX] at XO1 HX ⊢
 have HXE:=zbt hX
 clear hX ho1 hb1 HA HT HTS
 go_upto_region 2 with fail
 refine zaj ?_
 intro w2 hW2 hq2
 obtain ⟨g0,g1,g2⟩:=cells3N hq2
 have N2:=zbt (N1.out.bel hW2)
 have B2:=zbt (B1.out.trans (hW2.mono B1.out.size))
 have XO2:=zbt (zag XO1.out hW2)
 have hs2:=hW2.size
 have hl2:w1.heap.size<w2.heap.size:=zab hq2
 clear hW2 hq2 N1 B1 XO1
 go_wp2_with fail
 refine (znm X a1 c1 w2 (zcp.owns XO2.out) hX6).mono ?_
 rintro e w3 ⟨rfl,hb3⟩
 have hlk:(keyA X).length=38:=by unfold keyA;rw [zcZ,zdU _ hX6]
 have HLK:=zbt hlk
 have g0':=zaa hb3 g0
 have g1':=zaa hb3 g1
 have g2':=zaa hb3 g2
 have N3:=zbt (N2.out.bel hb3)
 have B3:=zbt (B2.out.trans (hb3.mono B2.out.size))
 have XO3:=zbt (zag XO2.out hb3)
 have hs3:=hb3.size
 clear hlk g0 g1 g2 hb3 N2 B2 XO2
 go_upto_region 3 with (refine zal (by rfl) 153 (.tmp 6) (.tmp 12) (by rfl) w3.heap.size (keyA X) (by rfl) (by rfl) _ 153 (ze1 _ _ _ rfl) (by rw [HLK.out];rfl) (by rw [HLK.out];exact zgs) (zer _ _ _) ?_;intro w4 hk4 ht4)
 have hB34:Below w3.heap.size w3 w4:=((Below.refl _ _).alloc (Nat.le_refl _) _).trans (ht4.out.below (Nat.le_refl _))
 have G0:=zaa hB34 g0'
 have G1:=zaa hB34 g1'
 have G2:=zaa hB34 g2'
 have N4:=zbt (N3.out.bel hB34)
 have B4:=zbt (B3.out.trans (hB34.mono B3.out.size))
 have XO4:=zbt (zag XO3.out hB34)
 have hs4:=hB34.size
 have RK:=zbt (zdn hk4.out)
 have hkb4:w3.heap.size<w4.heap.size:=zab hk4.out
 have hinf:(Tryz.prog.info? 153).map (·.size)=some (keyA X).length:=by rw [HLK.out];exact zgs
 obtain ⟨⟨m0,m1⟩,_,hgl⟩:=N4.out.box.facts
 obtain ⟨v,ps,hrun,hv⟩:=(N4.out.map.drew).look_ok zmP (t:=102) Tryz.underlying102 (zn6 _) (show ptrR (.pointer none)=some (zP,[]) from rfl) (K X HX.out)
 have hAL:(L.map Prod.fst).length=L.length:=by simp
 clear g0' g1' g2' hB34 N3 B3 XO3 ht4 hk4
 by_cases hin:zbS X (L.map Prod.fst)<(L.map Prod.fst).length
 ·obtain ⟨b,hb⟩:∃ b,bs[zbS X (L.map Prod.fst)]?=some b:=⟨bs[zbS X (L.map Prod.fst)]'(by rw [N4.out.inv.len];exact hin),by simp⟩
  obtain ⟨hy1,hy2⟩:=N4.out.inv.yes X b HX.out hb
  rw [hy1] at hrun
  rw [hy2] at hv
  have hvp:=znD hv
  subst hvp
  have HB:=zbt hb
  have HIN:=zbt hin
  clear hv hy1 hy2 hb hin
  refine wp_region_noPanic ?_
  refine wp_region_held_drew (S:=(fun w'=>w'.cell? ⟨gb,0,none⟩=some (.map (some mb))∧w'.rangeAt w3.heap.size 0 (keyA X))) (by kernel_rfl) ?_ (fun hHeld=>?_)
  ·(try dsimp only)
   exact ⟨m0,RK.out⟩
  refine tk 0 hHeld ?_
  (try simp only [Act.put,List.setIfInBounds_toArray,List.set_cons_zero,List.set_cons_succ])
  refine tk 1 hHeld ?_
  (try simp only [Act.put,List.setIfInBounds_toArray,List.set_cons_zero,List.set_cons_succ])
  refine tk 2 hHeld ?_
  (try simp only [Act.put,List.setIfInBounds_toArray,List.set_cons_zero,List.set_cons_succ])
  refine tk 3 hHeld ?_
  (try simp only [Act.put,List.setIfInBounds_toArray,List.set_cons_zero,List.set_cons_succ])
  refine wpAnyH_take (i:=4) (oi:=?oi1) (v:=?v1) ?hi1 (by kernel_rfl) (by kernel_rfl) (by kernel_rfl) (fun _ _ _ h=>h) ?yl1 hHeld ?rest1
  case hi1=>(simp only [List.getElem?_toArray,List.getElem?_cons_succ,List.getElem?_cons_zero];rfl)
  case yl1=>
   refine' yieldsIf_load_mid (by rfl) _ _ rfl _ _ rfl _ _ ?hS ?hu ?hd ?hj
   case hS=>(intro w hSw;exact hSw.2)
   case hu=>exact hu1
   case hd=>rfl
   case hj=>exact hinf
  (try simp only [Act.put,List.setIfInBounds_toArray,List.set_cons_zero,List.set_cons_succ])
  refine wpAnyH_ready (rs:=[5]) (by kernel_rfl) (by simp) ?_
  refine AllReadyH.cons (o:=?o2) ?ho2 (fun K hK=>?step2) AllReadyH.nil
  case ho2=>(simp only [List.getElem?_toArray,List.getElem?_cons_succ,List.getElem?_cons_zero];rfl)
  go_simp
  refine hK.out _ _ ?hS2 (fun hHeld'=>?rest2)
  case hS2=>((try dsimp only);exact ⟨m0,RK.out⟩)
  clear hK K
  (try simp only [Act.put,List.setIfInBounds_toArray,List.set_cons_zero,List.set_cons_succ])
  clear hHeld
  have hHeld:=hHeld'
  clear hHeld'
  refine tk 6 hHeld ?_
  (try simp only [Act.put,List.setIfInBounds_toArray,List.set_cons_zero,List.set_cons_succ])
  refine tk 7 hHeld ?_
  (try simp only [Act.put,List.setIfInBounds_toArray,List.set_cons_zero,List.set_cons_succ])
  refine tk 8 hHeld ?_
  (try simp only [Act.put,List.setIfInBounds_toArray,List.set_cons_zero,List.set_cons_succ])
  refine tk 9 hHeld ?_
  (try simp only [Act.put,List.setIfInBounds_toArray,List.set_cons_zero,List.set_cons_succ])
  refine tk 10 hHeld ?_
  (try simp only [Act.put,List.setIfInBounds_toArray,List.set_cons_zero,List.set_cons_succ])
  refine wpAnyH_done (by kernel_rfl) ?_ _
  refine NoPanic.normal ?_
  go_wp2_with fail
  go_ret
  exact ⟨la,lc,L,bs,D,b,rfl,N4.out.bel (Below.refl _ _).drew,by rw [← HXE.out,zjP HIN.out],by rw [← HXE.out];exact HB.out,Fr3.of_below (B4.out.trans (Below.refl _ _).drew),fun _ _ h=>h,fun _ h=>.inl h⟩
 ·have hno:=N4.out.inv.no X HX.out hin
  rw [hno] at hrun
  have HIN:=zbt hin
  clear hv hno hin
  refine wp_region_noPanic ?_
  refine wp_region_held_drew (S:=(fun w'=>w'.cell? ⟨gb,0,none⟩=some (.map (some mb))∧w'.rangeAt w3.heap.size 0 (keyA X))) (by kernel_rfl) ?_ (fun hHeld=>?_)
  ·(try dsimp only)
   exact ⟨m0,RK.out⟩
  refine tk 0 hHeld ?_
  (try simp only [Act.put,List.setIfInBounds_toArray,List.set_cons_zero,List.set_cons_succ])
  refine tk 1 hHeld ?_
  (try simp only [Act.put,List.setIfInBounds_toArray,List.set_cons_zero,List.set_cons_succ])
  refine tk 2 hHeld ?_
  (try simp only [Act.put,List.setIfInBounds_toArray,List.set_cons_zero,List.set_cons_succ])
  refine tk 3 hHeld ?_
  (try simp only [Act.put,List.setIfInBounds_toArray,List.set_cons_zero,List.set_cons_succ])
  refine wpAnyH_take (i:=4) (oi:=?oi3) (v:=?v3) ?hi3 (by kernel_rfl) (by kernel_rfl) (by kernel_rfl) (fun _ _ _ h=>h) ?yl3 hHeld ?rest3
  case hi3=>(simp only [List.getElem?_toArray,List.getElem?_cons_succ,List.getElem?_cons_zero];rfl)
  case yl3=>
   refine' yieldsIf_load_mid (by rfl) _ _ rfl _ _ rfl _ _ ?hS ?hu ?hd ?hj
   case hS=>(intro w hSw;exact hSw.2)
   case hu=>exact hu1
   case hd=>rfl
   case hj=>exact hinf
  (try simp only [Act.put,List.setIfInBounds_toArray,List.set_cons_zero,List.set_cons_succ])
  refine wpAnyH_ready (rs:=[5]) (by kernel_rfl) (by simp) ?_
  refine AllReadyH.cons (o:=?o4) ?ho4 (fun K hK=>?step4) AllReadyH.nil
  case ho4=>(simp only [List.getElem?_toArray,List.getElem?_cons_succ,List.getElem?_cons_zero];rfl)
  go_simp
  refine hK.out _ _ ?hS4 (fun hHeld'=>?rest4)
  case hS4=>((try dsimp only);exact ⟨m0,RK.out⟩)
  clear hK K
  (try simp only [Act.put,List.setIfInBounds_toArray,List.set_cons_zero,List.set_cons_succ])
  clear hHeld
  have hHeld:=hHeld'
  clear hHeld'
  refine tk 6 hHeld ?_
  (try simp only [Act.put,List.setIfInBounds_toArray,List.set_cons_zero,List.set_cons_succ])
  refine tk 7 hHeld ?_
  (try simp only [Act.put,List.setIfInBounds_toArray,List.set_cons_zero,List.set_cons_succ])
  refine tk 8 hHeld ?_
  (try simp only [Act.put,List.setIfInBounds_toArray,List.set_cons_zero,List.set_cons_succ])
  refine tk 9 hHeld ?_
  (try simp only [Act.put,List.setIfInBounds_toArray,List.set_cons_zero,List.set_cons_succ])
  refine tk 10 hHeld ?_
  (try simp only [Act.put,List.setIfInBounds_toArray,List.set_cons_zero,List.set_cons_succ])
  refine wpAnyH_done (by kernel_rfl) ?_ _
  refine NoPanic.normal ?_
  go_upto_region 5 with fail
  have HB5:=zbt (fun o=>(Below.refl _ _).alloc (Nat.le_refl _) o:∀ o,Below w4.heap.size w4 (w4.alloc o))
  clear hrun
  have D0:w4.drew.drew.cell? ⟨w1.heap.size,0,none⟩=some (.string X.cls):=G0
  have E0:∀ o,(w4.alloc o).drew.drew.cell? ⟨w1.heap.size,0,none⟩=some (.string X.cls):=fun o=>zaa (HB5.out o).drew.drew G0
  have D1:w4.drew.drew.cell? ⟨w1.heap.size,1,none⟩=some (.int .i64 X.arity):=G1
  have E1:∀ o,(w4.alloc o).drew.drew.cell? ⟨w1.heap.size,1,none⟩=some (.int .i64 X.arity):=fun o=>zaa (HB5.out o).drew.drew G1
  have D2:w4.drew.drew.cell? ⟨w1.heap.size,2,none⟩=some (.slice a1 X.tests.length c1):=G2
  have E2:∀ o,(w4.alloc o).drew.drew.cell? ⟨w1.heap.size,2,none⟩=some (.slice a1 X.tests.length c1):=fun o=>zaa (HB5.out o).drew.drew G2
  have D3:w4.drew.drew.cell? ⟨gb,1,none⟩=some (.slice la L.length lc):=m1
  have E3:∀ o,(w4.alloc o).drew.drew.cell? ⟨gb,1,none⟩=some (.slice la L.length lc):=fun o=>zaa (HB5.out o).drew.drew m1
  go_region_held3 (fun w'=>w'.cell? ⟨w1.heap.size,0,none⟩=some (.string X.cls)∧w'.cell? ⟨w1.heap.size,1,none⟩=some (.int .i64 X.arity)∧w'.cell? ⟨w1.heap.size,2,none⟩=some (.slice a1 X.tests.length c1)∧w'.cell? ⟨gb,1,none⟩=some (.slice la L.length lc)) (first | with_reducible exact ⟨D0,D1,D2,D3⟩ | with_reducible exact ⟨E0 _,E1 _,E2 _,E3 _⟩) (fail)
  go_upto_region 6 with fail
  refine znq (w0:=w4) (o:=.cells #[.string X.cls,.int .i64 X.arity,.slice a1 X.tests.length c1,.int .i64 (L.length:Int),.slice none 0 0] 99) ((HB5.out _).drew.drew) (heap_alloc_new _ _) ?_
  intro w5 hW5 hq5
  have N5:=zbt (N4.out.bel hW5)
  have ND5:=zbt (show zlg w5 w4.heap.size (X,.slice a1 X.tests.length c1) L.length from hq5)
  have B5:=zbt (B4.out.trans (hW5.mono B4.out.size))
  have XO5:=zbt (zag XO4.out hW5)
  have RK5:=zbt (show w5.rangeAt w3.heap.size 0 (keyA X) from fun j u hu=>zaa hW5 (RK.out j u hu))
  have hs5:=hW5.size
  have hl5:w4.heap.size<w5.heap.size:=zab hq5
  clear D0 D1 D2 D3 E0 E1 E2 E3
  clear hW5 hq5 G0 G1 G2 m0 m1 hgl B4 XO4 RK HB5
  obtain ⟨⟨m0,m1⟩,_,hgl⟩:=N5.out.box.facts
  obtain ⟨es0,cl0,hm0⟩:=zl9 N5.out.map
  have hgm:gb≠mb:=fun e=>by have:=N5.out.box;unfold GB at this;rw [e,hm0] at this;cases this
  have hkm:w3.heap.size≠mb:=fun e=>by have:=N4.out.map.lt;have h2:=HN.out.map.lt;omega
  obtain ⟨w6,hrun6,ho6,hg6⟩:=(N5.out.map.drew).update zmP (t:=102) Tryz.underlying102 (by unfold maxLen;omega) (K X HX.out) (zoz w4.heap.size)
  have M6:=zbt ho6
  have GR6:=zbt (show w5.grownBy w6 (some mb) from ⟨hg6.os,hg6.tape,hg6.output,hg6.size,hg6.block⟩)
  have hs6:w5.heap.size≤w6.heap.size:=hg6.size
  have GB6:=zbt (show GB w6 gb mb (.slice la L.length lc) from (GR6.out.block gb hgl (fun e=>hgm (by injection e))).trans N5.out.box)
  have RK6:=zbt (show w6.rangeAt w3.heap.size 0 (keyA X) from fun j u hu=>(World.cell?_of_block (w:=w5) (GR6.out.block w3.heap.size (by omega) (fun e=>hkm (by injection e)))).trans (RK5.out j u hu))
  have R6:=zbt (show w6.ownsRow base 100 1 (.slice la L.length lc) L.length (ptrs bs) from zae N5.out.row fun k hk=>GR6.out.block k (N5.out.row.lt k hk).2 (fun e=>by injection e with e;obtain ⟨c',hc'⟩:=zai N5.out.row hk;rw [e,hm0] at hc';cases hc'))
  obtain ⟨⟨k0,k1⟩,_,hgl6⟩:=GB6.out.facts
  clear ho6 hg6 hm0
  refine wp_region_noPanic ?_
  refine wp_region_held_drew (S:=(fun w'=>w'.cell? ⟨gb,0,none⟩=some (.map (some mb))∧w'.rangeAt w3.heap.size 0 (keyA X))) (by kernel_rfl) ?_ (fun hHeld=>?_)
  ·(try dsimp only)
   exact ⟨m0,RK5.out⟩
  refine tk 0 hHeld ?_
  (try simp only [Act.put,List.setIfInBounds_toArray,List.set_cons_zero,List.set_cons_succ])
  refine tk 1 hHeld ?_
  (try simp only [Act.put,List.setIfInBounds_toArray,List.set_cons_zero,List.set_cons_succ])
  refine tk 2 hHeld ?_
  (try simp only [Act.put,List.setIfInBounds_toArray,List.set_cons_zero,List.set_cons_succ])
  refine tk 3 hHeld ?_
  (try simp only [Act.put,List.setIfInBounds_toArray,List.set_cons_zero,List.set_cons_succ])
  refine wpAnyH_take (i:=4) (oi:=?oi5) (v:=?v5) ?hi5 (by kernel_rfl) (by kernel_rfl) (by kernel_rfl) (fun _ _ _ h=>h) ?yl5 hHeld ?rest5
  case hi5=>(simp only [List.getElem?_toArray,List.getElem?_cons_succ,List.getElem?_cons_zero];rfl)
  case yl5=>
   refine' yieldsIf_load_mid (by rfl) _ _ rfl _ _ rfl _ _ ?hS ?hu ?hd ?hj
   case hS=>(intro w hSw;exact hSw.2)
   case hu=>exact hu1
   case hd=>rfl
   case hj=>exact hinf
  (try simp only [Act.put,List.setIfInBounds_toArray,List.set_cons_zero,List.set_cons_succ])
  refine tk 5 hHeld ?_
  (try simp only [Act.put,List.setIfInBounds_toArray,List.set_cons_zero,List.set_cons_succ])
  refine wpAnyH_ready (rs:=[6]) (by kernel_rfl) (by simp) ?_
  refine AllReadyH.cons (o:=?o6) ?ho6 (fun K hK=>?step6) AllReadyH.nil
  case ho6=>(simp only [List.getElem?_toArray,List.getElem?_cons_succ,List.getElem?_cons_zero];rfl)
  go_simp
  refine hK.out _ _ ?hS6 (fun hHeld'=>?rest6)
  case hS6=>((try dsimp only);exact ⟨k0,RK6.out⟩)
  clear hK K
  (try simp only [Act.put,List.setIfInBounds_toArray,List.set_cons_zero,List.set_cons_succ])
  clear hHeld
  have hHeld:=hHeld'
  clear hHeld'
  refine wpAnyH_done (by kernel_rfl) ?_ _
  refine NoPanic.normal ?_
  have HW:=zbt (fun o=>(Below.refl _ _).alloc (Nat.le_refl _) o:∀ o,Below w6.heap.size w6 (w6.alloc o))
  have GBA:=zbt (fun o=>show GB (w6.alloc o) gb mb (.slice la L.length lc) from ((HW.out o).block gb hgl6).trans GB6.out)
  have TY:=zbt (fun o k hk=>zai (zag R6.out (HW.out o)) (k:=k) hk)
  clear m0 m1 hrun6
  go_upto_region 8 with (first | (at_builtin;refine zad (by rfl) (.tmp 42) (.tmp 44) 103 (by rfl) base 100 _ 1 8 Tryz.underlying103 zov (by rfl) (by omega) _ L.length _ (by rfl) (zag R6.out (HW.out _)) (some ⟨_,0,none⟩) 1 1 (by rfl) [.pointer (some ⟨w4.heap.size,0,none⟩)] (by rfl) (fun e=>by cases e) (zav _ _ _ _ (by simp)) (by intro u hu;simp at hu;subst hu;rfl) (by unfold maxLen;omega) (by omega) (by simp;omega) ?_;intro a7 c7 w7 ho7 hg7 hl7;have GB7:=zbt (show GB w7 gb mb (.slice la L.length lc) from zaI (GBA.out _) hg7.out (TY.out _) (by decide));obtain ⟨⟨l0,l1⟩,z,_⟩:=GB7.out.facts;have z1:=z 1;clear z) | fail)
  refine zmN GB7.out ?_
  intro w8 hG8 ht8
  have hR:=NS.add K (x:=(X,.slice a1 X.tests.length c1)) N5.out ⟨⟨a1,c1,rfl⟩,zan XO5.out hbase⟩ (fun y hy g hg hgx=>by have h1:=((HN.out.als y hy).2.lt g hg).2;have h2:=(XO5.out.lt g hgx).1;omega) HX.out HIN.out ND5.out (by omega) M6.out GR6.out ho7.out hg7.out hG8 ht8
  have HR:=zbt hR
  have hbl:bs.length=L.length:=by have:=N5.out.inv.len;simpa using this
  have HBL:=zbt hbl
  clear hR hbl hG8 ht8
  go_wp2_with fail
  go_ret
  refine ⟨a7,c7,L ++ [(X,.slice a1 X.tests.length c1)],bs ++ [w4.heap.size],_,w4.heap.size,rfl,HR.out.1,?_,?_,Fr3.trans_below B5.out HR.out.2,fun i n h=>by rw [List.getElem?_append_left (List.getElem?_eq_some_iff.1 h).1];exact h,?_⟩
  ·rw [← HXE.out,zjD HIN.out]
   simp
  ·rw [← HXE.out,zh5 HIN.out,hAL,List.getElem?_append_right (Nat.le_of_eq HBL.out),HBL.out,Nat.sub_self]
   rfl
  ·intro g hg
   rw [List.length_append] at hg
   rcases hl7.out with h | h
   ·rw [show L.length+[(X,Value.slice a1 X.tests.length c1)].length=L.length+1 from rfl,h] at hg
    exact .inl hg
   ·rw [show L.length+[(X,Value.slice a1 X.tests.length c1)].length=L.length+1 from rfl,h] at hg
    injection hg with hg
    have h5:=B5.out.size
    simp at hg
    exact .inr (by omega)
end Go.Proofs.YtmmdlgjmplddiaaGreat
namespace Go.Proofs.YtmmdlgjmplddiaaGreat
open Go.RowKit Go.Maps
attribute [local go_sem ↓] Go.wp_at_zero Go.wp_at_succ
def NTy (t:TypeId):Prop:=t=105∨t=100∨t=99∨t=111
theorem NS.keptB {kl:Al→Lit}{w w':World}{base gb mb:Nat}{la:Option Addr}{lc:Nat}{L:List AlX}{bs:List Nat}{D:DataW Unit} (h:NS kl w base gb mb la lc L bs D) (hb:∀ k,k<w.heap.size→(∀ c t fr,w.heap[k]?=some (Obj.cells c t fr)→NTy t)→w'.heap[k]?=w.heap[k]?):NS kl w' base gb mb la lc L bs D:=by
 have key:∀ (k:Nat) (c:Array Value) (t:TypeId) (fr:Nat × Nat),w.heap[k]?=some (.cells c t fr)→NTy t→w'.heap[k]?=some (.cells c t fr):=fun k c t fr hk ht=>(hb k (zab hk) (fun c' t' fr' hk'=>by rw [hk] at hk';injection hk' with hk';injection hk' with _ h2;rw [← h2];exact ht)).trans hk
 have keyO:∀ {e:TypeId}{m:Nat}{v:Value}{n:Nat}{xs:List Value},w.ownsRow base e m v n xs→NTy e→w'.ownsRow base e m v n xs:=fun ho he=>zae ho fun k hk=>by
  obtain ⟨c,hc⟩:=zai ho hk
  rw [key k _ _ _ hc he,hc]
 refine ⟨key _ _ _ _ h.box (.inl rfl),?_,h.inv,keyO h.row (.inr (.inl rfl)),fun i x b hx hb'=>⟨key _ _ _ _ (h.node i x b hx hb').1 (.inr (.inr (.inl rfl))),(h.node i x b hx hb').2⟩,fun x hx=>⟨(h.als x hx).1,keyO (h.als x hx).2 (.inr (.inr (.inr rfl)))⟩,h.pair,h.gbase⟩
 obtain ⟨es,cl,hm⟩:=zl9 h.map
 exact zcJ h.map (hb mb h.map.lt (fun c t fr hc=>by rw [hm] at hc;cases hc))
theorem NS.grown {kl:Al→Lit}{w w':World}{base gb mb:Nat}{la:Option Addr}{lc:Nat}{L:List AlX}{bs:List Nat}{D:DataW Unit}{t:TypeId}{row:Option Nat} (h:NS kl w base gb mb la lc L bs D) (hg:w.grownBy w' row) (ht:∀ k,row=some k→∃ c,w.heap[k]?=some (.cells c t (0,0))) (hne:¬ NTy t):NS kl w' base gb mb la lc L bs D:=
 h.keptB fun k hk hty=>hg.block k hk (fun e=>by
  obtain ⟨c,hc⟩:=ht k e.symm
  exact hne (hty _ _ _ hc))
theorem Fr3.below {gb mb B:Nat}{row:Option Nat}{w w':World} (h:Fr3 gb mb row w w') (h0:B≤w.heap.size) (h1:B≤gb) (h2:B≤mb) (h3:∀ k,row=some k→B≤k):Below B w w':=
 ⟨h.rest.os,h.rest.tape,h.rest.output,h.rest.size,fun k hk=>h.block k (by omega) (by omega) (by omega) (fun e=>by have:=h3 k e;omega)⟩
theorem zhN {P:Program} (t:TypeId) (w:World):(Instr.makeMap t none).run P w=.ok (.map (some w.heap.size)) (w.alloc (.map #[] 0)):=by
 simp [Instr.makeMap]
set_option maxHeartbeats 400000 in
theorem zh3 (kl:Al→Lit) (w:World):Calls Tryz.prog 31 #[] w fun e w'=>e=.returned (.pointer (some ⟨w.heap.size+1,0,none⟩))∧NS kl w' w.heap.size (w.heap.size+1) w.heap.size none 0 [] [] (.map [])∧Below w.heap.size w w':=by
 have hmm:=zhN (P:=Tryz.prog) 102
 go_enter Tryz.func31,Tryz.ntmps31
 go_wp2_with fail
 go_ret
 refine ⟨rfl,⟨?_,?_,MIA.start kl,World.ownsRow_nil _ _ _ _,fun i x b hx=>by simp at hx,fun x hx=>by simp at hx,List.Pairwise.nil,by omega⟩,((Below.refl _ _).alloc (Nat.le_refl _) _).alloc (by simp) _⟩
 ·exact ze1 _ _ _ (by simp)
 ·exact zcJ (World.ownsMap_made w Tryz.prog 153 ptrR) (Below.heap_alloc _ _ _ (by simp))
end Go.Proofs.YtmmdlgjmplddiaaGreat
namespace Go.Proofs.YtmmdlgjmplddiaaGreat
open Go.RowKit Go.Maps
structure Cx where
 cp:Cp
 node:Nat
 ta:Option Addr
 tc:Nat
def zb3 (c:Cx):List Value:=[.bool c.cp.neg,.int .i64 (c.cp.at_:Int),.pointer (some ⟨c.node,0,none⟩),.slice c.ta c.cp.tests.length c.tc]
theorem zlA (c:Cx):∀ u∈zb3 c,u.oneCell'=true:=by
 intro u hu
 simp [zb3] at hu
 rcases hu with rfl | rfl | rfl | rfl <;> rfl
def za0:List Pt→List Vr→Nat→List Vr
 | [],vs,_=>vs
 | p :: ps,vs,n=>if p.neg=true then za0 ps vs n else za0 ps (zar vs p.terms n p.terms.length) (n+1)
theorem zbE {w w':World}{base b:Nat}{e t:TypeId}{m:Nat}{v:Value}{n:Nat}{xs:List Value}{c:Array Value}{fr:Nat × Nat} (h:w.ownsRow base e m v n xs) (hb:w.heap[b]?=some (.cells c t fr)) (ht:Turned w w' b) (hne:t≠e):w'.ownsRow base e m v n xs:=
 zae h fun k hk=>ht.block k (fun e=>by
  obtain ⟨c',hc'⟩:=zai h hk
  subst e
  exact zaA hb hc' hne)
theorem Fr3.then_below {gb mb:Nat}{row:Option Nat}{u v w:World} (h:Fr3 gb mb row u v) (k:Below u.heap.size v w):Fr3 gb mb row u w:=⟨h.rest.trans (k.mono (Nat.zero_le _)),fun j hj h1 h2 h3=>(k.block j hj).trans (h.block j hj h1 h2 h3)⟩
theorem Fr3.then_fr {gb mb:Nat}{row row':Option Nat}{u v w:World} (h:Fr3 gb mb row u v) (k:Fr3 gb mb row' v w) (hr:∀ g,row'=some g→row=some g∨u.heap.size≤g):Fr3 gb mb row u w:=⟨h.rest.trans k.rest,fun j hj h1 h2 h3=>(k.block j (Nat.lt_of_lt_of_le hj h.rest.size) h1 h2 (fun e=>by rcases hr j e with h' | h';exact h3 h';omega)).trans (h.block j hj h1 h2 h3)⟩
theorem NS.turnedC {kl:Al→Lit}{w w':World}{base gb mb:Nat}{la:Option Addr}{lc:Nat}{L:List AlX}{bs:List Nat}{D:DataW Unit}{b:Nat}{c:Array Value}{t:TypeId}{fr:Nat × Nat} (h:NS kl w base gb mb la lc L bs D) (hb:w.heap[b]?=some (.cells c t fr)) (ht:Turned w w' b) (hne:¬ NTy t):NS kl w' base gb mb la lc L bs D:=
 h.keptB fun k hk hty=>ht.block k (fun e=>by
  subst e
  exact hne (hty _ _ _ hb))
theorem PlB.set0 {w:World}{b:Nat}{v0 v1:Value} (h:PlB w b v0 v1) (x:Value):PlB (w.setCell ⟨b,0,none⟩ x) b x v1:=by
 have:=zaf (i:=0) h x
 simpa [PlB] using this
theorem zg9 {P:World→Prop}{w:World}{b:Nat}{v0 v1 y:Value} (h0:PlB w b v0 v1) (h:∀ wt,PlB wt b y v1→Turned w wt b→P wt):P (w.setCell ⟨b,0,none⟩ y):=h _ (h0.set0 y) (Turned.setCells [y] 0 w b)
structure PN (w:World) (B pb:Nat) (ca:Option Addr) (cc:Nat) (va:Option Addr) (vc:Nat) (X:List Cx) (U:List Vr) (A:List Al) (bs:List Nat):Prop where
 box:PlB w pb (.slice ca X.length cc) (.slice va U.length vc)
 conds:w.ownsRow B 140 4 (.slice ca X.length cc) X.length (X.flatMap zb3)
 vars:w.ownsRow B 215 3 (.slice va U.length vc) U.length (U.flatMap zbJ)
 tests:∀ c∈X,w.ownsRow B 182 4 (.slice c.ta c.cp.tests.length c.tc) c.cp.tests.length (c.cp.tests.flatMap zcr)
 nodes:∀ c∈X,∃ i:Nat,A[i]?=some c.cp.alpha∧bs[i]?=some c.node
theorem PN.keptB {w w':World}{B pb:Nat}{ca:Option Addr}{cc:Nat}{va:Option Addr}{vc:Nat}{X:List Cx}{U:List Vr}{A:List Al}{bs:List Nat} (h:PN w B pb ca cc va vc X U A bs) (hb:∀ (k:Nat) (c:Array Value) (t:TypeId) (fr:Nat × Nat),w.heap[k]?=some (.cells c t fr)→(t=71∨t=140∨t=215∨t=182)→w'.heap[k]?=some (.cells c t fr)):PN w' B pb ca cc va vc X U A bs:=by
 have keyO:∀ {e:TypeId}{m:Nat}{v:Value}{n:Nat}{xs:List Value},w.ownsRow B e m v n xs→(e=71∨e=140∨e=215∨e=182)→w'.ownsRow B e m v n xs:=fun ho he=>zae ho fun k hk=>by
  obtain ⟨c,hc⟩:=zai ho hk
  rw [hb k _ _ _ hc he,hc]
 exact ⟨hb _ _ _ _ h.box (.inl rfl),keyO h.conds (.inr (.inl rfl)),keyO h.vars (.inr (.inr (.inl rfl))),fun c hc=>keyO (h.tests c hc) (.inr (.inr (.inr rfl))),h.nodes⟩
theorem PN.bel {w w':World}{B pb:Nat}{ca:Option Addr}{cc:Nat}{va:Option Addr}{vc:Nat}{X:List Cx}{U:List Vr}{A:List Al}{bs:List Nat} (h:PN w B pb ca cc va vc X U A bs) (hb:Below w.heap.size w w'):PN w' B pb ca cc va vc X U A bs:=
 h.keptB fun k _ _ _ hk _=>(hb.block k (zab hk)).trans hk
structure PD (w:World) (B:Nat) (ca:Option Addr) (cc:Nat) (va:Option Addr) (vc:Nat) (X:List Cx) (U:List Vr) (A:List Al) (bs:List Nat):Prop where
 conds:w.ownsRow B 140 4 (.slice ca X.length cc) X.length (X.flatMap zb3)
 vars:w.ownsRow B 215 3 (.slice va U.length vc) U.length (U.flatMap zbJ)
 tests:∀ c∈X,w.ownsRow B 182 4 (.slice c.ta c.cp.tests.length c.tc) c.cp.tests.length (c.cp.tests.flatMap zcr)
 nodes:∀ c∈X,∃ i:Nat,A[i]?=some c.cp.alpha∧bs[i]?=some c.node
theorem PD.keptB {w w':World}{B:Nat}{ca:Option Addr}{cc:Nat}{va:Option Addr}{vc:Nat}{X:List Cx}{U:List Vr}{A:List Al}{bs:List Nat} (h:PD w B ca cc va vc X U A bs) (hb:∀ (k:Nat) (c:Array Value) (t:TypeId) (fr:Nat × Nat),w.heap[k]?=some (.cells c t fr)→(t=140∨t=215∨t=182)→w'.heap[k]?=some (.cells c t fr)):PD w' B ca cc va vc X U A bs:=by
 have keyO:∀ {e:TypeId}{m:Nat}{v:Value}{n:Nat}{xs:List Value},w.ownsRow B e m v n xs→(e=140∨e=215∨e=182)→w'.ownsRow B e m v n xs:=fun ho he=>zae ho fun k hk=>by
  obtain ⟨c,hc⟩:=zai ho hk
  rw [hb k _ _ _ hc he,hc]
 exact ⟨keyO h.conds (.inl rfl),keyO h.vars (.inr (.inl rfl)),fun c hc=>keyO (h.tests c hc) (.inr (.inr rfl)),h.nodes⟩
theorem PD.bel {w w':World}{B:Nat}{ca:Option Addr}{cc:Nat}{va:Option Addr}{vc:Nat}{X:List Cx}{U:List Vr}{A:List Al}{bs:List Nat} (h:PD w B ca cc va vc X U A bs) (hb:Below w.heap.size w w'):PD w' B ca cc va vc X U A bs:=
 h.keptB fun k _ _ _ hk _=>(hb.block k (zab hk)).trans hk
theorem PN.pd {w:World}{B pb:Nat}{ca:Option Addr}{cc:Nat}{va:Option Addr}{vc:Nat}{X:List Cx}{U:List Vr}{A:List Al}{bs:List Nat} (h:PN w B pb ca cc va vc X U A bs):PD w B ca cc va vc X U A bs:=⟨h.conds,h.vars,h.tests,h.nodes⟩
structure PS (kl:Al→Lit) (w:World) (R0:Option Nat) (bs0:List Nat) (A0:List Al) (base gb mb pb:Nat) (la:Option Addr) (lc:Nat) (L:List AlX) (bs:List Nat) (D:DataW Unit) (ca:Option Addr) (cc:Nat) (va:Option Addr) (vc:Nat) (X:List Cx) (U:List Vr) (wr:World):Prop where
 ns:NS kl wr base gb mb la lc L bs D
 pn:PN wr w.heap.size pb ca cc va vc X U (L.map Prod.fst) bs
 fr:Fr3 gb mb R0 w wr
 rw':∀ g,(Value.slice la L.length lc).ownBlock=some g→R0=some g∨w.heap.size≤g
 ext:∀ (i n:Nat),bs0[i]?=some n→bs[i]?=some n
 exa:∀ (i:Nat) (y:Al),A0[i]?=some y→(L.map Prod.fst)[i]?=some y
 six:∀ x∈L,x.1.tests.length≤6
theorem PS.bel {kl:Al→Lit}{w wr w':World}{R0:Option Nat}{bs0:List Nat}{A0:List Al}{base gb mb pb:Nat}{la:Option Addr}{lc:Nat}{L:List AlX}{bs:List Nat}{D:DataW Unit}{ca:Option Addr}{cc:Nat}{va:Option Addr}{vc:Nat}{X:List Cx}{U:List Vr} (h:PS kl w R0 bs0 A0 base gb mb pb la lc L bs D ca cc va vc X U wr) (hb:Below wr.heap.size wr w'):PS kl w R0 bs0 A0 base gb mb pb la lc L bs D ca cc va vc X U w':=
 ⟨h.ns.bel hb,h.pn.bel hb,h.fr.then_below (hb.mono h.fr.rest.size),h.rw',h.ext,h.exa,h.six⟩
theorem zjq {A:List Al}{x y:Al}{i:Nat} (h:A[i]?=some y):(addA A x)[i]?=some y:=by
 unfold addA
 split
 ·exact h
 ·rw [List.getElem?_append_left (List.getElem?_eq_some_iff.1 h).1]
  exact h
theorem PS.of {kl:Al→Lit}{w wr w':World}{R0:Option Nat}{bs0:List Nat}{A0:List Al}{base gb mb pb:Nat}{la la':Option Addr}{lc lc':Nat}{L L':List AlX}{bs bs':List Nat}{D D':DataW Unit}{ca:Option Addr}{cc:Nat}{va:Option Addr}{vc:Nat}{X:List Cx}{U:List Vr}{x:Al} (h:PS kl w R0 bs0 A0 base gb mb pb la lc L bs D ca cc va vc X U wr) (hn:NS kl w' base gb mb la' lc' L' bs' D') (hx6:x.tests.length≤6) (hL:L'.map Prod.fst=addA (L.map Prod.fst) x) (hf:Fr3 gb mb (Value.slice la L.length lc).ownBlock wr w') (he:∀ (i n:Nat),bs[i]?=some n→bs'[i]?=some n) (hr:∀ g,(Value.slice la' L'.length lc').ownBlock=some g→(Value.slice la L.length lc).ownBlock=some g∨wr.heap.size≤g):PS kl w R0 bs0 A0 base gb mb pb la' lc' L' bs' D' ca cc va vc X U w':=by
 have hp:PN w' w.heap.size pb ca cc va vc X U (L.map Prod.fst) bs:=h.pn.keptB fun k c t fr hk ht=>hf.box hk h.ns (by rcases ht with rfl | rfl | rfl | rfl <;> decide) (by rcases ht with rfl | rfl | rfl | rfl <;> decide)
 refine ⟨hn,⟨hp.box,hp.conds,hp.vars,hp.tests,fun c hc=>?_⟩,h.fr.then_fr hf h.rw',fun g hg=>?_,fun i n hi=>he i n (h.ext i n hi),fun i y hi=>by rw [hL];exact zjq (h.exa i y hi),fun y hy=>?_⟩
 ·obtain ⟨i,h1,h2⟩:=hp.nodes c hc
  exact ⟨i,by rw [hL];exact zjq h1,he i _ h2⟩
 ·rcases hr g hg with h1 | h1
  ·exact h.rw' g h1
  ·exact .inr (Nat.le_trans h.fr.rest.size h1)
 ·have hm:y.1∈addA (L.map Prod.fst) x:=by rw [← hL];exact List.mem_map.2 ⟨y,hy,rfl⟩
  unfold addA at hm
  split at hm
  ·obtain ⟨z,hz,e⟩:=List.mem_map.1 hm
   rw [← e]
   exact h.six z hz
  ·rcases List.mem_append.1 hm with hm | hm
   ·obtain ⟨z,hz,e⟩:=List.mem_map.1 hm
    rw [← e]
    exact h.six z hz
   ·rw [List.mem_singleton.1 hm]
    exact hx6
theorem PS.push {kl:Al→Lit}{w wr w7 w8:World}{R0:Option Nat}{bs0:List Nat}{A0:List Al}{base gb mb pb:Nat}{la:Option Addr}{lc:Nat}{L:List AlX}{bs:List Nat}{D:DataW Unit}{ca ca':Option Addr}{cc cc':Nat}{va:Option Addr}{vc:Nat}{X:List Cx}{U:List Vr}{c:Cx}{o:Obj} (h:PS kl w R0 bs0 A0 base gb mb pb la lc L bs D ca cc va vc X U wr) (ht:wr.ownsRow w.heap.size 182 4 (.slice c.ta c.cp.tests.length c.tc) c.cp.tests.length (c.cp.tests.flatMap zcr)) (hnd:∃ i:Nat,(L.map Prod.fst)[i]?=some c.cp.alpha∧bs[i]?=some c.node) (hpb:w.heap.size≤pb)
  (ho7:w7.ownsRow w.heap.size 140 4 (.slice ca' (X.length+1) cc') (X.length+1) (X.flatMap zb3 ++ zb3 c)) (hg7:(wr.alloc o).grownBy w7 (Value.slice ca X.length cc).ownBlock) (hP8:PlB w8 pb (.slice ca' (X.length+1) cc') (.slice va U.length vc)) (ht8:Turned w7 w8 pb) :
  PS kl w R0 bs0 A0 base gb mb pb la lc L bs D ca' cc' va vc (X ++ [c]) U w8:=by
 have hA:Below wr.heap.size wr (wr.alloc o):=(Below.refl _ _).alloc (Nat.le_refl _) _
 have hsz:=h.fr.rest.size
 have h1:=h.bel hA
 have ht1:=zag ht hA
 have TY:=fun k hk=>zai h1.pn.conds (k:=k) hk
 have hP7:PlB w7 pb (.slice ca X.length cc) (.slice va U.length vc):=zaI h1.pn.box hg7 TY (by decide)
 have n7:=h1.ns.grown hg7 TY (by unfold NTy;decide)
 have v7:=zbh h1.pn.vars hg7 TY (by decide)
 have t7:=zbh ht1 hg7 TY (by decide)
 refine ⟨n7.turnedC hP7 ht8 (by unfold NTy;decide),⟨by simpa using hP8,?_,zbE v7 hP7 ht8 (by decide),fun d hd=>?_,fun d hd=>?_⟩,?_,h.rw',h.ext,h.exa,h.six⟩
 ·have:=zbE ho7 hP7 ht8 (by decide)
  simpa using this
 ·rcases List.mem_append.1 hd with hd | hd
  ·exact zbE (zbh (h1.pn.tests d hd) hg7 TY (by decide)) hP7 ht8 (by decide)
  ·simp at hd
   subst hd
   exact zbE t7 hP7 ht8 (by decide)
 ·rcases List.mem_append.1 hd with hd | hd
  ·exact h.pn.nodes d hd
  ·simp at hd
   subst hd
   exact hnd
 ·refine h1.fr.then_below (((Below.refl _ _).grown hg7 (by simp;omega) (fun k hk=>(h1.pn.conds.lt k hk).1)).trans (ht8.below hpb))
theorem PS.fill {kl:Al→Lit}{w wr w':World}{R0:Option Nat}{bs0:List Nat}{A0:List Al}{base gb mb pb:Nat}{la:Option Addr}{lc:Nat}{L:List AlX}{bs:List Nat}{D:DataW Unit}{ca:Option Addr}{cc:Nat}{va:Option Addr}{vc:Nat}{X:List Cx}{U:List Vr}{b:Nat}{c:Array Value}{fr:Nat × Nat} (h:PS kl w R0 bs0 A0 base gb mb pb la lc L bs D ca cc va vc X U wr) (hb:wr.heap[b]?=some (.cells c 140 fr)) (ht:Turned wr w' b) (hne:∀ g,(Value.slice ca X.length cc).ownBlock=some g→g≠b) (hwb:w.heap.size≤b):PS kl w R0 bs0 A0 base gb mb pb la lc L bs D ca cc va vc X U w':=
 ⟨h.ns.turnedC hb ht (by unfold NTy;decide),⟨(ht.block pb (fun e=>by subst e;exact zaA h.pn.box hb (by decide))).trans h.pn.box,zae h.pn.conds (fun k hk=>ht.block k (hne k hk)),zbE h.pn.vars hb ht (by decide),fun d hd=>zbE (h.pn.tests d hd) hb ht (by decide),h.pn.nodes⟩,h.fr.then_below (ht.below hwb),h.rw',h.ext,h.exa,h.six⟩
theorem zcy {w w':World}{b d:Nat}{c c':Array Value}{t t':TypeId}{fr fr':Nat × Nat} (h:w.heap[b]?=some (.cells c t fr)) (hd:w.heap[d]?=some (.cells c' t' fr')) (ht:Turned w w' d) (hne:t≠t'):w'.heap[b]?=some (.cells c t fr):=
 (ht.block b (fun e=>by subst e;exact zaA h hd hne)).trans h
theorem PS.bindP {kl:Al→Lit}{w wr w':World}{R0:Option Nat}{bs0:List Nat}{A0:List Al}{base gb mb pb:Nat}{la:Option Addr}{lc:Nat}{L:List AlX}{bs:List Nat}{D:DataW Unit}{ca:Option Addr}{cc:Nat}{va va':Option Addr}{vc vc':Nat}{X:List Cx}{U U':List Vr} (h:PS kl w R0 bs0 A0 base gb mb pb la lc L bs D ca cc va vc X U wr) (hpb:w.heap.size≤pb) (hP:PlB w' pb (.slice ca X.length cc) (.slice va' U'.length vc')) (hO:w'.ownsRow w.heap.size 215 3 (.slice va' U'.length vc') U'.length (U'.flatMap zbJ)) (hF:Fp pb (Value.slice va U.length vc).ownBlock wr w'):PS kl w R0 bs0 A0 base gb mb pb la lc L bs D ca cc va' vc' X U' w':=by
 have hsz:=h.fr.rest.size
 have far:∀ (k:Nat) (c:Array Value) (t:TypeId) (fr:Nat × Nat),wr.heap[k]?=some (.cells c t fr)→t≠71→t≠215→w'.heap[k]?=some (.cells c t fr):=fun k c t fr hk h1 h2=>by
  refine (hF.block k (zab hk) (fun e=>?_) (fun e=>?_)).trans hk
  ·subst e
   exact zaA hk h.pn.box h1
  ·obtain ⟨c',hc'⟩:=zai h.pn.vars e
   exact zaA hk hc' h2
 have farO:∀ {e:TypeId}{m:Nat}{v:Value}{n:Nat}{xs:List Value},wr.ownsRow w.heap.size e m v n xs→e≠71→e≠215→w'.ownsRow w.heap.size e m v n xs:=fun ho h1 h2=>zae ho fun k hk=>by
  obtain ⟨c,hc⟩:=zai ho hk
  rw [far k _ _ _ hc h1 h2,hc]
 refine ⟨h.ns.keptB fun k hk hty=>hF.block k hk (fun e=>?_) (fun e=>?_),⟨hP,farO h.pn.conds (by decide) (by decide),hO,fun d hd=>farO (h.pn.tests d hd) (by decide) (by decide),h.pn.nodes⟩,?_,h.rw',h.ext,h.exa,h.six⟩
 ·subst e
  exact absurd (hty _ _ _ h.pn.box) (by unfold NTy;decide)
 ·obtain ⟨c',hc'⟩:=zai h.pn.vars e
  exact absurd (hty _ _ _ hc') (by unfold NTy;decide)
 ·exact h.fr.then_below ⟨hF.rest.os,hF.rest.tape,hF.rest.output,hF.rest.size,fun k hk=>hF.block k (Nat.lt_of_lt_of_le hk hsz) (by omega) (fun e=>by have:=(h.pn.vars.lt k e).1;omega)⟩
theorem zlp:(Tryz.prog.info? 140).map (fun i=>(i.zero,i.size,i.bytes))=some (some (.agg #[.bool false,.int .i64 0,.pointer none,.slice none 0 0]),4,48):=by kernel_rfl
theorem zlo (A:List Al) (x:Al):(addA A x)[zbS x A]?=some x:=by
 by_cases h:zbS x A<A.length
 ·rw [zjP h]
  exact zjV h
 ·rw [zjD h,zh5 h]
  simp
theorem zbQ (p:Pt) (ps:List Pt) (vs:List Vr) (n:Nat):zaF (p :: ps) vs n=⟨p.neg,n,zaE p,zaz vs p.terms p.terms.length⟩ :: (if p.neg=true then zaF ps vs n else zaF ps (zar vs p.terms n p.terms.length) (n+1)):=rfl
theorem zbT (p:Pt) (ps:List Pt) (vs:List Vr) (n:Nat):za0 (p :: ps) vs n=if p.neg=true then za0 ps vs n else za0 ps (zar vs p.terms n p.terms.length) (n+1):=rfl
theorem zjp {P:World→Prop}{w:World}{b:Nat}{t:TypeId}{x0 x1 x2 x3 y0 y1 y2 y3:Value} (h0:w.heap[b]?=some (.cells #[x0,x1,x2,x3] t (0,0))) (h:∀ wt,wt.heap[b]?=some (.cells #[y0,y1,y2,y3] t (0,0))→Turned w wt b→P wt):P ((((w.setCell ⟨b,0,none⟩ y0).setCell ⟨b,1,none⟩ y1).setCell ⟨b,2,none⟩ y2).setCell ⟨b,3,none⟩ y3):=by
 have h1:=zaf (i:=0) h0 y0
 have h2:=zaf (i:=1) h1 y1
 have h3:=zaf (i:=2) h2 y2
 have h4:=zaf (i:=3) h3 y3
 exact h _ (by simpa using h4) (Turned.setCells [y0,y1,y2,y3] 0 w b)
end Go.Proofs.YtmmdlgjmplddiaaGreat
namespace Go.Proofs.YtmmdlgjmplddiaaGreat
open Go.RowKit
attribute [local go_sem ↓] Go.wp_at_zero Go.wp_at_succ
def gn (L:List EnX) (k:Nat):EnX:=(L[k]?).getD (⟨0,[]⟩,.nilIface,.nilIface)
def fn (L:List EnX) (k:Nat):In:=(gn L k).1
theorem zeO {L:List EnX}{k:Nat}{x:EnX} (h:L[k]?=some x):gn L k=x:=by unfold gn;rw [h];rfl
theorem zc4 {L:List EnX}{k:Nat}{x:EnX} (h:L[k]?=some x):fn L k=x.1:=by unfold fn;rw [zeO h]
theorem zi6 (L:List EnX):upto (gn L) L.length=L:=by
 apply List.ext_getElem?
 intro k
 unfold upto
 by_cases hk:k<L.length
 ·rw [List.getElem?_map,List.getElem?_range hk,List.getElem?_eq_getElem hk]
  simp [zeO (List.getElem?_eq_getElem hk)]
 ·rw [List.getElem?_eq_none (by simp;omega),List.getElem?_eq_none (by omega)]
theorem zhl {L:List EnX}{i j:Nat}{x y:EnX} (hi:L[i]?=some x) (hj:L[j]?=some y):gn (zcb L i j x y)=zdj (gn L) i j:=by
 have il:i<L.length:=(List.getElem?_eq_some_iff.1 hi).1
 have jl:j<L.length:=(List.getElem?_eq_some_iff.1 hj).1
 funext k
 unfold zdj
 by_cases e:k=i
 ·rw [if_pos e,zeO hj]
  subst e
  by_cases e2:k=j
  ·subst e2
   rw [hi] at hj
   injection hj with hj
   subst hj
   exact zeO (by unfold zcb;rw [List.getElem?_set_self (by simpa using il)])
  ·exact zeO (by unfold zcb;rw [List.getElem?_set_ne (Ne.symm e2),List.getElem?_set_self il])
 ·rw [if_neg e]
  by_cases e2:k=j
  ·rw [if_pos e2,zeO hi]
   subst e2
   exact zeO (by unfold zcb;rw [List.getElem?_set_self (by simpa using jl)])
  ·rw [if_neg e2]
   unfold gn zcb
   rw [List.getElem?_set_ne (Ne.symm e2),List.getElem?_set_ne (Ne.symm e)]
theorem zfn {L:List EnX}{i j:Nat}{x y:EnX} (hi:L[i]?=some x) (hj:L[j]?=some y):fn (zcb L i j x y)=zdj (fn L) i j:=by
 funext k
 unfold fn
 rw [zhl hi hj]
 unfold zdj
 split
 ·rfl
 ·split <;> rfl
theorem zc5 {L:List EnX}{i j:Nat}{x y:EnX} (hi:L[i]?=some x) (hj:L[j]?=some y):(zcb L i j x y).Perm L:=by
 have il:i<L.length:=(List.getElem?_eq_some_iff.1 hi).1
 have jl:j<L.length:=(List.getElem?_eq_some_iff.1 hj).1
 have h:=znl (gn L) il jl
 rw [← zhl hi hj] at h
 have e1:=zi6 (zcb L i j x y)
 rw [zie] at e1
 have e2:=zi6 L
 unfold upto at e1 e2
 rw [e1,e2] at h
 exact h
def agI (lb:Nat):Value:=.iface 121 (.pointer (some ⟨lb,0,none⟩))
theorem zlZ (lb : Nat) (w : World) : Sem.run Tryz.prog (method 388 121 (.pointer (some ⟨lb, 0, none⟩)) "Less") w = Sem.run Tryz.prog ((do let v ← loadVar 118 ⟨lb, 0, none⟩; pure (201, v)) : Sem (FuncId × Value)) w := by kernel_rfl
theorem zdT {lb n c : Nat} {a : Option Addr} {w : World} (h : w.heap[lb]? = some (.cells #[.slice a n c] 118 (0, 0))) : Sem.run Tryz.prog (method 388 121 (.pointer (some ⟨lb, 0, none⟩)) "Less") w = .ok (201, .slice a n c) w := by
 have h0:w.cell? ⟨lb,0,none⟩=some (.slice a n c):=by simp [World.cell?,h]
 rw [zlZ]
 simp [go_sem,h0]
theorem zli (lb : Nat) (w : World) : Sem.run Tryz.prog (method 388 121 (.pointer (some ⟨lb, 0, none⟩)) "Swap") w = Sem.run Tryz.prog ((do let v ← loadVar 118 ⟨lb, 0, none⟩; pure (202, v)) : Sem (FuncId × Value)) w := by kernel_rfl
theorem zdX {lb n c : Nat} {a : Option Addr} {w : World} (h : w.heap[lb]? = some (.cells #[.slice a n c] 118 (0, 0))) : Sem.run Tryz.prog (method 388 121 (.pointer (some ⟨lb, 0, none⟩)) "Swap") w = .ok (202, .slice a n c) w := by
 have h0:w.cell? ⟨lb,0,none⟩=some (.slice a n c):=by simp [World.cell?,h]
 rw [zli]
 simp [go_sem,h0]
theorem znd (lb : Nat) (w : World) : Sem.run Tryz.prog (method 388 121 (.pointer (some ⟨lb, 0, none⟩)) "Len") w = Sem.run Tryz.prog ((do let v ← loadVar 118 ⟨lb, 0, none⟩; pure (42, v)) : Sem (FuncId × Value)) w := by kernel_rfl
theorem zmi {lb n c : Nat} {a : Option Addr} {w : World} (h : w.heap[lb]? = some (.cells #[.slice a n c] 118 (0, 0))) : Sem.run Tryz.prog (method 388 121 (.pointer (some ⟨lb, 0, none⟩)) "Len") w = .ok (42, .slice a n c) w := by
 have h0:w.cell? ⟨lb,0,none⟩=some (.slice a n c):=by simp [World.cell?,h]
 rw [znd]
 simp [go_sem,h0]
theorem zmT (lb : Nat) (w : World) : Sem.run Tryz.prog (method 388 121 (.pointer (some ⟨lb, 0, none⟩)) "Push") w = .ok (204, .pointer (some ⟨lb, 0, none⟩)) w := by kernel_rfl
theorem zoF (lb : Nat) (w : World) : Sem.run Tryz.prog (method 388 121 (.pointer (some ⟨lb, 0, none⟩)) "Pop") w = .ok (203, .pointer (some ⟨lb, 0, none⟩)) w := by kernel_rfl
theorem zfs {rs:List Ru}{w w':World}{base lb n c c':Nat}{a:Option Addr}{L:List EnX} (h:AgO rs w base a c L) (hn:L.length=n) (hbx:w.heap[lb]?=some (.cells #[.slice a n c'] 118 (0,0))) (hm:MkO (Value.slice a n c).ownBlock w w'):w'.heap[lb]?=some (.cells #[.slice a n c'] 118 (0,0)):=
 (hm.block lb (zab hbx) (fun e=>by subst hn;obtain ⟨_,h1⟩:=zai h.row e;exact zaA h1 hbx (by decide))).trans hbx
set_option maxRecDepth 100000 in
set_option maxHeartbeats 3200000 in
theorem zoZ (rs:List Ru) (L0:List EnX) (a:Option Addr) (c base lb j0:Nat) (w:World) (h:AgO rs w base a c L0) (hbx:w.heap[lb]?=some (.cells #[.slice a L0.length c] 118 (0,0))) (hu:UpF (befI rs) (fn L0) L0.length j0) (hj:j0<L0.length) (hl:L0.length≤1048576) :
  Calls Tryz.prog 73 #[agI lb,.int .i64 (j0:Int)] w fun e w'=>(∃ v,e=.returned v)∧∃ L,AgO rs w' base a c L∧L.Perm L0∧zcE (befI rs) (fn L) L0.length∧MkO (Value.slice a L0.length c).ownBlock w w':=by
 unfold agI
 have HS:=hidA (zch rs)
 have H0:=hidA h
 have HU:=hidA hu
 have HBX:=hidA hbx
 clear h hu hbx
 go_enter Tryz.func73,Tryz.ntmps73
 go_wp2_with fail
 go_loopw [1] (fun jv wr=>∃ (j:Nat) (L:List EnX),jv=.int .i64 (j:Int)∧j<L0.length∧L.Perm L0∧AgO rs wr base a c L∧UpF (befI rs) (fn L) L0.length j∧MkO (Value.slice a L0.length c).ownBlock w wr) (fun jv _=>(intOf jv).toNat)
 case atStart=>exact ⟨j0,L0,rfl,hj,List.Perm.refl _,H0.out,HU.out,MkO.refl _ _⟩
 case round=>
  obtain ⟨j,L,rfl,hjl,hp,hA,hU,hm⟩:=hrel
  have HP:=hidA hp
  have AA:=hidA hA
  have UU:=hidA hU
  have MM:=hidA hm
  have hbr:=zfs H0.out rfl HBX.out hm
  have hLl:=hp.length_eq
  clear hp hA hU hm
  rcases Nat.eq_zero_or_pos j with rfl | hpos
  ·go_wp2_with fail
   go_end0
   exact ⟨⟨_,rfl⟩,L,AA.out,HP.out,UU.out.done0,MM.out⟩
  ·obtain ⟨p,hpp⟩:∃ p,p=par j:=⟨_,rfl⟩
   have hpj:p<j:=by rw [hpp];exact zdg hpos
   have hdv:((j:Int) - 1) / 2=(p:Int):=by rw [hpp];unfold par;omega
   have hne:((p:Int)==(j:Int))=false:=by simp;omega
   obtain ⟨x,hx⟩:∃ x,L[p]?=some x:=⟨L[p]'(by omega),by simp⟩
   obtain ⟨y,hy⟩:∃ y,L[j]?=some y:=⟨L[j]'(by omega),by simp⟩
   have hmL:=zdT hbr
   have HL:=hidA (zcW rs L a c base j p y x wr AA.out hy hx)
   rw [hLl] at HL
   have HX:=hidA hx
   have HY:=hidA hy
   have HPP:=hidA hpp
   have HBR:=hidA hbr
   cases hb:befI rs y.1 x.1
   ·rw [hb] at HL
    have HD:=hidA (UU.out.done (by rw [← hpp,zc4 hy,zc4 hx];exact hb))
    clear hx hy hb hpp hLl hbr
    go_wp2_with fail
    refine HL.out.mono ?_
    rintro e w1 ⟨rfl,hb1⟩
    have M1:=hidA (MM.out.trans (MkO.of_below hb1))
    have A1:=hidA (AA.out.bel hb1)
    clear hb1 HL hmL
    go_wp2_with fail
    go_end0
    exact ⟨⟨_,rfl⟩,L,A1.out,HP.out,HD.out,M1.out⟩
   ·rw [hb] at HL
    have HD:=hidA (UU.out.step HS.out hjl hpos (by rw [← hpp,zc4 hy,zc4 hx];exact hb))
    clear hx hy hb hpp hbr
    go_wp2_with fail
    refine HL.out.mono ?_
    rintro e w1 ⟨rfl,hb1⟩
    have M1:=hidA (MM.out.trans (MkO.of_below hb1))
    have A1:=hidA (AA.out.bel hb1)
    have hmS:=zdX ((hb1.block _ (zab HBR.out)).trans HBR.out)
    have HSW:=hidA (zc3 rs L a c base p j x y w1 A1.out HX.out HY.out)
    rw [hLl] at HSW
    clear hb1 HL hmL hLl
    go_wp2_with fail
    refine HSW.out.mono ?_
    rintro e w2 ⟨⟨v2,rfl⟩,hA2,hm2⟩
    have M2:=hidA (M1.out.trans hm2)
    have A2:=hidA hA2
    have P2:=hidA ((zc5 HX.out HY.out).trans HP.out)
    have U2:=hidA (show UpF (befI rs) (fn (zcb L p j x y)) L0.length p by rw [zfn HX.out HY.out,HPP.out];rw [HPP.out] at *;exact HD.out)
    clear hA2 hm2 HSW hmS
    go_wp2_with fail
    go_roundw
    case rel=>exact ⟨p,zcb L p j x y,rfl,by omega,P2.out,A2.out,U2.out,M2.out⟩
    case measure=>(simp [intOf];omega)
end Go.Proofs.YtmmdlgjmplddiaaGreat
namespace Go.Proofs.YtmmdlgjmplddiaaGreat
open Go.RowKit
attribute [local go_sem ↓] Go.wp_at_zero Go.wp_at_succ
theorem ze5 {k i:Nat} (h0:0<k) (h:par k=i):k=2 * i+1∨k=2 * i+2:=by unfold par at h;omega
theorem zmA {L:List EnX}{i j k:Nat}{x y:EnX} (hi:L[i]?=some x) (hj:L[j]?=some y) (e1:k≠i) (e2:k≠j):gn (zcb L i j x y) k=gn L k:=by
 rw [zhl hi hj]
 unfold zdj
 rw [if_neg e1,if_neg e2]
set_option maxRecDepth 100000 in
set_option maxHeartbeats 6400000 in
theorem zmX (rs:List Ru) (L0:List EnX) (a:Option Addr) (c base lb n:Nat) (w:World) (h:AgO rs w base a c L0) (hbx:w.heap[lb]?=some (.cells #[.slice a L0.length c] 118 (0,0))) (hu:zeb (befI rs) (fn L0) n 0) (hn:n<L0.length) (hl:L0.length≤1048576) :
  Calls Tryz.prog 114 #[agI lb,.int .i64 0,.int .i64 (n:Int)] w fun e w'=>(∃ v,e=.returned v)∧∃ L,AgO rs w' base a c L∧L.Perm L0∧zcE (befI rs) (fn L) n∧gn L n=gn L0 n∧MkO (Value.slice a L0.length c).ownBlock w w':=by
 unfold agI
 have HS:=hidA (zch rs)
 have H0:=hidA h
 have HU:=hidA hu
 have HBX:=hidA hbx
 clear h hu hbx
 go_enter Tryz.func114,Tryz.ntmps114
 go_wp2_with fail
 go_loopw [7] (fun iv wr=>∃ (i:Nat) (L:List EnX),iv=.int .i64 (i:Int)∧(i<n∨i=0)∧L.Perm L0∧AgO rs wr base a c L∧zeb (befI rs) (fn L) n i∧gn L n=gn L0 n∧MkO (Value.slice a L0.length c).ownBlock w wr) (fun iv _=>n - (intOf iv).toNat)
 case atStart=>exact ⟨0,L0,rfl,.inr rfl,List.Perm.refl _,H0.out,HU.out,rfl,MkO.refl _ _⟩
 case round=>
  obtain ⟨i,L,rfl,hin,hp,hA,hU,hg,hm⟩:=hrel
  have HP:=hidA hp
  have AA:=hidA hA
  have UU:=hidA hU
  have GG:=hidA hg
  have MM:=hidA hm
  have hbr:=zfs H0.out rfl HBX.out hm
  have HBR:=hidA hbr
  have hLl:=hp.length_eq
  have HLL:=hidA hLl
  have y0:(0:Int)≤(i:Int):=by omega
  have y1:(i:Int)<1048577:=by omega
  clear hp hA hU hm hg
  by_cases hj1:2 * i+1<n
  ·obtain ⟨j1,ej1⟩:∃ j,j=2 * i+1:=⟨_,rfl⟩
   obtain ⟨j2,ej2⟩:∃ j,j=j1+1:=⟨_,rfl⟩
   have HV1:=hidA (show (j1:Int)=2 * (i:Int)+1 by omega)
   have HV2:=hidA (show (j2:Int)=2 * (i:Int)+1+1 by omega)
   have b1:¬ (n:Int)≤2 * (i:Int)+1:=by omega
   have b2:¬ 2 * (i:Int)+1<0:=by omega
   obtain ⟨xi,hxi⟩:∃ x,L[i]?=some x:=⟨L[i]'(by omega),by simp⟩
   obtain ⟨x1,hx1⟩:∃ x,L[j1]?=some x:=⟨L[j1]'(by omega),by simp⟩
   have HXI:=hidA hxi
   have HX1:=hidA hx1
   by_cases hj2:j2<n
   ·obtain ⟨x2,hx2⟩:∃ x,L[j2]?=some x:=⟨L[j2]'(by omega),by simp⟩
    have HX2:=hidA hx2
    have b3:2 * (i:Int)+1+1<(n:Int):=by omega
    have hmL:=zdT hbr
    have HL:=hidA (zcW rs L a c base j2 j1 x2 x1 wr AA.out hx2 hx1)
    rw [hLl,HV1.out,HV2.out] at HL
    have EJ1:=hidA ej1
    have EJ2:=hidA ej2
    have HJ2:=hidA hj2
    cases hb:befI rs x2.1 x1.1
    ·rw [hb] at HL
     have HMIN:=hidA (show ∀ k,k<n→0<k→par k=i→befI rs (fn L k) (fn L j1)=false from fun k _ h0 hk=>by
      rcases ze5 h0 hk with e | e
      ·rw [show k=j1 by omega]
       exact HS.out.irr _
      ·rw [show k=j2 by omega,zc4 HX2.out,zc4 HX1.out]
       exact hb)
     clear hxi hx1 hx2 hb hbr hLl ej1 ej2 hj2
     go_wp2_with fail
     refine HL.out.mono ?_
     rintro e w1 ⟨rfl,hb1⟩
     have A1:=hidA (AA.out.bel hb1)
     have M1:=hidA (MM.out.trans (MkO.of_below hb1))
     have hbr1:=(hb1.block _ (zab HBR.out)).trans HBR.out
     clear hb1 HL hmL
     have hmL1:=zdT hbr1
     have HL1:=hidA (zcW rs L a c base j1 i x1 xi w1 A1.out HX1.out HXI.out)
     rw [HLL.out,HV1.out] at HL1
     cases hb':befI rs x1.1 xi.1
     ·rw [hb'] at HL1
      have HD:=hidA (UU.out.done (fun k hk h0 hpk=>by
       have e1:=HMIN.out k hk h0 hpk
       have e2:befI rs (fn L j1) (fn L i)=false:=by rw [zc4 HX1.out,zc4 HXI.out];exact hb'
       exact HS.out.le_trans e2 e1))
      clear hb' hbr1
      go_wp2_with fail
      refine HL1.out.mono ?_
      rintro e w2 ⟨rfl,hb2⟩
      have A2:=hidA (A1.out.bel hb2)
      have M2:=hidA (M1.out.trans (MkO.of_below hb2))
      clear hb2 HL1 hmL1
      go_wp2_with fail
      go_ret
      exact ⟨⟨_,rfl⟩,L,A2.out,HP.out,HD.out,GG.out,M2.out⟩
     ·rw [hb'] at HL1
      have HD:=hidA (UU.out.step HS.out (j:=j1) (by have:=EJ1.out;have:=EJ2.out;have:=HJ2.out;omega) (by have:=EJ1.out;have:=EJ2.out;omega) (by have:=EJ1.out;have:=EJ2.out;unfold par;omega) HMIN.out (by rw [zc4 HX1.out,zc4 HXI.out];exact hb'))
      clear hb'
      go_wp2_with fail
      refine HL1.out.mono ?_
      rintro e w2 ⟨rfl,hb2⟩
      have A2:=hidA (A1.out.bel hb2)
      have M2:=hidA (M1.out.trans (MkO.of_below hb2))
      have hmS:=zdX ((hb2.block _ (zab hbr1)).trans hbr1)
      have HSW:=hidA (zc3 rs L a c base i j1 xi x1 w2 A2.out HXI.out HX1.out)
      rw [HLL.out,HV1.out] at HSW
      clear hb2 HL1 hmL1 hbr1
      go_wp2_with fail
      refine HSW.out.mono ?_
      rintro e w3 ⟨⟨v3,rfl⟩,hA3,hm3⟩
      have M3:=hidA (M2.out.trans hm3)
      have A3:=hidA hA3
      have P3:=hidA ((zc5 HXI.out HX1.out).trans HP.out)
      have U3:=hidA (show zeb (befI rs) (fn (zcb L i j1 xi x1)) n j1 by rw [zfn HXI.out HX1.out];exact HD.out)
      have G3:=hidA (show gn (zcb L i j1 xi x1) n=gn L0 n by rw [zmA HXI.out HX1.out (by have:=EJ1.out;have:=EJ2.out;have:=HJ2.out;omega) (by have:=EJ1.out;have:=EJ2.out;have:=HJ2.out;omega)];exact GG.out)
      clear hA3 hm3 HSW hmS
      go_wp2_with fail
      go_roundw
      case rel=>exact ⟨j1,zcb L i j1 xi x1,by rw [HV1.out],.inl (by have:=EJ1.out;have:=EJ2.out;have:=HJ2.out;omega),P3.out,A3.out,U3.out,G3.out,M3.out⟩
      case measure=>(simp [intOf];omega)
    ·rw [hb] at HL
     have HMIN:=hidA (show ∀ k,k<n→0<k→par k=i→befI rs (fn L k) (fn L j2)=false from fun k _ h0 hk=>by
      rcases ze5 h0 hk with e | e
      ·rw [show k=j1 by omega,zc4 HX2.out,zc4 HX1.out]
       exact HS.out.asym _ _ hb
      ·rw [show k=j2 by omega]
       exact HS.out.irr _)
     clear hxi hx1 hx2 hb hbr hLl ej1 ej2 hj2
     go_wp2_with fail
     refine HL.out.mono ?_
     rintro e w1 ⟨rfl,hb1⟩
     have A1:=hidA (AA.out.bel hb1)
     have M1:=hidA (MM.out.trans (MkO.of_below hb1))
     have hbr1:=(hb1.block _ (zab HBR.out)).trans HBR.out
     clear hb1 HL hmL
     have hmL1:=zdT hbr1
     have HL1:=hidA (zcW rs L a c base j2 i x2 xi w1 A1.out HX2.out HXI.out)
     rw [HLL.out,HV2.out] at HL1
     cases hb':befI rs x2.1 xi.1
     ·rw [hb'] at HL1
      have HD:=hidA (UU.out.done (fun k hk h0 hpk=>by
       have e1:=HMIN.out k hk h0 hpk
       have e2:befI rs (fn L j2) (fn L i)=false:=by rw [zc4 HX2.out,zc4 HXI.out];exact hb'
       exact HS.out.le_trans e2 e1))
      clear hb' hbr1
      go_wp2_with fail
      refine HL1.out.mono ?_
      rintro e w2 ⟨rfl,hb2⟩
      have A2:=hidA (A1.out.bel hb2)
      have M2:=hidA (M1.out.trans (MkO.of_below hb2))
      clear hb2 HL1 hmL1
      go_wp2_with fail
      go_ret
      exact ⟨⟨_,rfl⟩,L,A2.out,HP.out,HD.out,GG.out,M2.out⟩
     ·rw [hb'] at HL1
      have HD:=hidA (UU.out.step HS.out (j:=j2) (by have:=EJ1.out;have:=EJ2.out;have:=HJ2.out;omega) (by have:=EJ1.out;have:=EJ2.out;omega) (by have:=EJ1.out;have:=EJ2.out;unfold par;omega) HMIN.out (by rw [zc4 HX2.out,zc4 HXI.out];exact hb'))
      clear hb'
      go_wp2_with fail
      refine HL1.out.mono ?_
      rintro e w2 ⟨rfl,hb2⟩
      have A2:=hidA (A1.out.bel hb2)
      have M2:=hidA (M1.out.trans (MkO.of_below hb2))
      have hmS:=zdX ((hb2.block _ (zab hbr1)).trans hbr1)
      have HSW:=hidA (zc3 rs L a c base i j2 xi x2 w2 A2.out HXI.out HX2.out)
      rw [HLL.out,HV2.out] at HSW
      clear hb2 HL1 hmL1 hbr1
      go_wp2_with fail
      refine HSW.out.mono ?_
      rintro e w3 ⟨⟨v3,rfl⟩,hA3,hm3⟩
      have M3:=hidA (M2.out.trans hm3)
      have A3:=hidA hA3
      have P3:=hidA ((zc5 HXI.out HX2.out).trans HP.out)
      have U3:=hidA (show zeb (befI rs) (fn (zcb L i j2 xi x2)) n j2 by rw [zfn HXI.out HX2.out];exact HD.out)
      have G3:=hidA (show gn (zcb L i j2 xi x2) n=gn L0 n by rw [zmA HXI.out HX2.out (by have:=EJ1.out;have:=EJ2.out;have:=HJ2.out;omega) (by have:=EJ1.out;have:=EJ2.out;have:=HJ2.out;omega)];exact GG.out)
      clear hA3 hm3 HSW hmS
      go_wp2_with fail
      go_roundw
      case rel=>exact ⟨j2,zcb L i j2 xi x2,by rw [HV2.out],.inl (by have:=EJ1.out;have:=EJ2.out;have:=HJ2.out;omega),P3.out,A3.out,U3.out,G3.out,M3.out⟩
      case measure=>(simp [intOf];omega)
   ·have b3:¬ 2 * (i:Int)+1+1<(n:Int):=by omega
    have HMIN:=hidA (show ∀ k,k<n→0<k→par k=i→befI rs (fn L k) (fn L j1)=false from fun k hk h0 hpk=>by
     rcases ze5 h0 hpk with e | e
     ·rw [show k=j1 by omega]
      exact HS.out.irr _
     ·exact absurd hk (by omega))
    obtain ⟨w1,hw1e⟩:∃ v,v=wr:=⟨wr,rfl⟩
    rw [← hw1e] at AA MM HBR ⊢
    have A1:=hidA AA.out
    have M1:=hidA MM.out
    have hbr1:=HBR.out
    have EJ1:=hidA ej1
    have EJ2:=hidA ej2
    have HJ2:=hidA hj2
    clear hw1e hxi hx1 hbr hLl AA MM ej1 ej2 hj2
    have hmL1:=zdT hbr1
    have HL1:=hidA (zcW rs L a c base j1 i x1 xi w1 A1.out HX1.out HXI.out)
    rw [HLL.out,HV1.out] at HL1
    cases hb':befI rs x1.1 xi.1
    ·rw [hb'] at HL1
     have HD:=hidA (UU.out.done (fun k hk h0 hpk=>by
      have e1:=HMIN.out k hk h0 hpk
      have e2:befI rs (fn L j1) (fn L i)=false:=by rw [zc4 HX1.out,zc4 HXI.out];exact hb'
      exact HS.out.le_trans e2 e1))
     clear hb' hbr1
     go_wp2_with fail
     refine HL1.out.mono ?_
     rintro e w2 ⟨rfl,hb2⟩
     have A2:=hidA (A1.out.bel hb2)
     have M2:=hidA (M1.out.trans (MkO.of_below hb2))
     clear hb2 HL1 hmL1
     go_wp2_with fail
     go_ret
     exact ⟨⟨_,rfl⟩,L,A2.out,HP.out,HD.out,GG.out,M2.out⟩
    ·rw [hb'] at HL1
     have HD:=hidA (UU.out.step HS.out (j:=j1) (by have:=EJ1.out;have:=EJ2.out;have:=HJ2.out;omega) (by have:=EJ1.out;have:=EJ2.out;omega) (by have:=EJ1.out;have:=EJ2.out;unfold par;omega) HMIN.out (by rw [zc4 HX1.out,zc4 HXI.out];exact hb'))
     clear hb'
     go_wp2_with fail
     refine HL1.out.mono ?_
     rintro e w2 ⟨rfl,hb2⟩
     have A2:=hidA (A1.out.bel hb2)
     have M2:=hidA (M1.out.trans (MkO.of_below hb2))
     have hmS:=zdX ((hb2.block _ (zab hbr1)).trans hbr1)
     have HSW:=hidA (zc3 rs L a c base i j1 xi x1 w2 A2.out HXI.out HX1.out)
     rw [HLL.out,HV1.out] at HSW
     clear hb2 HL1 hmL1 hbr1
     go_wp2_with fail
     refine HSW.out.mono ?_
     rintro e w3 ⟨⟨v3,rfl⟩,hA3,hm3⟩
     have M3:=hidA (M2.out.trans hm3)
     have A3:=hidA hA3
     have P3:=hidA ((zc5 HXI.out HX1.out).trans HP.out)
     have U3:=hidA (show zeb (befI rs) (fn (zcb L i j1 xi x1)) n j1 by rw [zfn HXI.out HX1.out];exact HD.out)
     have G3:=hidA (show gn (zcb L i j1 xi x1) n=gn L0 n by rw [zmA HXI.out HX1.out (by have:=EJ1.out;have:=EJ2.out;have:=HJ2.out;omega) (by have:=EJ1.out;have:=EJ2.out;have:=HJ2.out;omega)];exact GG.out)
     clear hA3 hm3 HSW hmS
     go_wp2_with fail
     go_roundw
     case rel=>exact ⟨j1,zcb L i j1 xi x1,by rw [HV1.out],.inl (by have:=EJ1.out;have:=EJ2.out;have:=HJ2.out;omega),P3.out,A3.out,U3.out,G3.out,M3.out⟩
     case measure=>(simp [intOf];omega)
  ·have b1:(n:Int)≤2 * (i:Int)+1:=by omega
   have HD:=hidA (UU.out.done (fun k hk h0 hpk=>by rcases ze5 h0 hpk with e | e <;> exact absurd hk (by omega)))
   go_wp2_with fail
   go_ret
   exact ⟨⟨_,rfl⟩,L,AA.out,HP.out,HD.out,GG.out,MM.out⟩
end Go.Proofs.YtmmdlgjmplddiaaGreat
namespace Go.Proofs.YtmmdlgjmplddiaaGreat
open Go.RowKit
attribute [local go_sem ↓] Go.wp_at_zero Go.wp_at_succ
structure FrA (base:Nat) (w w':World):Prop where
 bel:Below base w w'
 cel:∀ (k:Nat) c t fr,w.heap[k]?=some (.cells c t fr)→t≠123→t≠118→w'.heap[k]?=some (.cells c t fr)
theorem FrA.trans {base:Nat}{u v w:World} (h:FrA base u v) (k:FrA base v w):FrA base u w:=⟨h.bel.trans k.bel,fun j c t fr hj h1 h2=>k.cel j c t fr (h.cel j c t fr hj h1 h2) h1 h2⟩
theorem FrA.of_below {base:Nat}{w w':World} (h:Below w.heap.size w w') (hb:base≤w.heap.size):FrA base w w':=⟨h.mono hb,fun k _ _ _ hk _ _=>(h.block k (zab hk)).trans hk⟩
theorem FrA.mko {rs:List Ru}{w w':World}{base n c:Nat}{a:Option Addr}{L:List EnX} (h:AgO rs w base a c L) (hn:L.length=n) (hm:MkO (Value.slice a n c).ownBlock w w') (hb:base≤w.heap.size):FrA base w w':=by
 subst hn
 refine ⟨hm.below hb (fun g hg=>(h.row.lt g hg).1),fun k cc t fr hk h1 _=>(hm.block k (zab hk) (fun e=>?_)).trans hk⟩
 obtain ⟨c2,h2⟩:=zai h.row e
 rw [hk] at h2
 injection h2 with h2
 injection h2 with _ h2 _
 exact h1 h2
theorem FrA.grown {rs:List Ru}{w w':World}{base n c:Nat}{a:Option Addr}{L:List EnX} (h:AgO rs w base a c L) (hn:L.length=n) (hg:w.grownBy w' (Value.slice a n c).ownBlock) (hb:base≤w.heap.size):FrA base w w':=by
 subst hn
 refine ⟨(Below.refl base w).grown hg hb (fun g hg=>(h.row.lt g hg).1),fun k cc t fr hk h1 _=>(hg.block k (zab hk) (fun e=>?_)).trans hk⟩
 obtain ⟨c2,h2⟩:=zai h.row e.symm
 rw [hk] at h2
 injection h2 with h2
 injection h2 with _ h2 _
 exact h1 h2
theorem FrA.box {w:World}{base lb:Nat}{v v':Value} (h:w.heap[lb]?=some (.cells #[v] 118 (0,0))) (hb:base≤lb):FrA base w (w.setCell ⟨lb,0,none⟩ v'):=by
 refine ⟨(Below.refl _ _).setCell hb _,fun k c t fr hk _ h2=>?_⟩
 rw [Below.heap_setCell _ _ _ _ (fun e=>?_)]
 ·exact hk
 ·simp only at e
  subst e
  rw [h] at hk
  injection hk with hk
  injection hk with _ hk _
  exact h2 hk.symm
theorem AgO.fra {rs:List Ru}{w w':World}{base:Nat}{a:Option Addr}{c:Nat}{L:List EnX} (h:AgO rs w base a c L) (hr:w'.ownsRow base 123 4 (.slice a L.length c) L.length (L.flatMap (zbI rs))) (hf:FrA base w w'):AgO rs w' base a c L:=
 ⟨hr,fun x hx=>(h.all x hx).same (fun k c hk=>(hf.cel k c _ _ hk (by decide) (by decide)).trans hk.symm)⟩
theorem zlb:(Tryz.prog.info? 123).map (fun i=>(i.zero,i.size,i.bytes))=some (some (.agg #[.int .i64 0,.slice none 0 0,.int .i64 0,.slice none 0 0]),4,64):=by kernel_rfl
theorem AgO.snoc {rs:List Ru}{w w':World}{base:Nat}{a a':Option Addr}{c c':Nat}{L:List EnX}{x:EnX} (h:AgO rs w base a c L) (hx:EnP rs w base x) (ho:w'.ownsRow base 123 4 (.slice a' (L.length+1) c') (L.length+1) (L.flatMap (zbI rs) ++ zbI rs x)) (hf:FrA base w w'):AgO rs w' base a' c' (L ++ [x]):=by
 refine ⟨by simpa using ho,fun y hy=>?_⟩
 have hy':EnP rs w base y:=by
  rcases List.mem_append.1 hy with hy | hy
  ·exact h.all y hy
  ·simp at hy
   subst hy
   exact hx
 exact hy'.same (fun k c hk=>(hf.cel k c _ _ hk (by decide) (by decide)).trans hk.symm)
theorem znP (v:Value) (w:World):Sem.run Tryz.prog (Instr.typeAssert (.iface 123 v) 20 123 false) w=.ok v w:=by kernel_rfl
def AgB (rs:List Ru) (w:World) (base lb:Nat) (L:List EnX):Prop:=∃ a c,w.heap[lb]?=some (.cells #[.slice a L.length c] 118 (0,0))∧AgO rs w base a c L
set_option maxRecDepth 100000 in
set_option maxHeartbeats 3200000 in
theorem zj3 (rs:List Ru) (L:List EnX) (base lb:Nat) (x:In) (a1 a2:Option Addr) (c1 c2:Nat) (w:World) (h:AgB rs w base lb L) (hx:EnP rs w base (x,.slice a1 (recA x.tags).length c1,.slice a2 x.tags.length c2)) (hlb:base≤lb) (hl:L.length≤1048576) :
  Calls Tryz.prog 204 #[.pointer (some ⟨lb,0,none⟩),.iface 123 (enV rs x a1 c1 a2 c2)] w fun e w'=>(∃ v,e=.returned v)∧AgB rs w' base lb (L ++ [(x,.slice a1 (recA x.tags).length c1,.slice a2 x.tags.length c2)])∧FrA base w w':=by
 unfold enV
 obtain ⟨a,c,hbx,hA⟩:=h
 have HX:=hidA hx
 have HBX:=hidA hbx
 have AA:=hidA hA
 have hlw:lb<w.heap.size:=zab hbx
 have k0:w.cell? ⟨lb,0,none⟩=some (.slice a L.length c):=by simp [World.cell?,hbx]
 have hnB:(Value.slice a L.length c).ownBlock≠some lb:=fun e=>by obtain ⟨_,h1⟩:=zai hA.row e;exact zaA h1 hbx (by decide)
 have HW:=hidA (show ∀ o',Below w.heap.size w (w.drew.alloc o') from fun o'=>(Below.refl _ _).drew.alloc (Nat.le_refl _) o')
 have k1:=fun o=>zaa (HW.out o) k0
 have hta:=znP (.agg #[.int .i64 (zaZ rs x),.slice a1 (recA x.tags).length c1,.int .i64 x.rule,.slice a2 x.tags.length c2])
 clear hx hbx hA
 go_enter Tryz.func204,Tryz.ntmps204
 go_wp2_with fail
 refine wp_region_noPanic ?_
 refine wp_region_held_drew (S:=(fun _=>True)) (by kernel_rfl) ?_ (fun hHeld=>?_)
 ·(try dsimp only)
  all_goals trivial
 refine tk 0 hHeld ?_
 (try simp only [pA,pZ,pS])
 refine tk 1 hHeld ?_
 (try simp only [pA,pZ,pS])
 refine tk 2 hHeld ?_
 (try simp only [pA,pZ,pS])
 refine tk 4 hHeld ?_
 (try simp only [pA,pZ,pS])
 refine tk 5 hHeld ?_
 (try simp only [pA,pZ,pS])
 refine wpAnyH_ready (rs:=[3,6]) (by kernel_rfl) (by simp) (AllReadyH.cons (List.getElem?_toArray.trans rfl) (fun K hK=>?_) (AllReadyH.cons (List.getElem?_toArray.trans rfl) (fun K hK=>?_) AllReadyH.nil))
 ·go_simp
  refine hK.out _ _ trivial (fun hHeld=>?_)
  clear hK K
  (first | simp only [pA,pZ,pS] | simp only [pN] | skip)
  refine wpAnyH_ready (rs:=[6]) (by kernel_rfl) (by simp) (AllReadyH.cons (List.getElem?_toArray.trans rfl) (fun K hK=>?_) AllReadyH.nil)
  go_simp
  refine hK.out _ _ trivial (fun hHeld=>?_)
  clear hK K
  (first | simp only [pA,pZ,pS] | simp only [pN] | skip)
  refine wpAnyH_ready (rs:=[7]) (by kernel_rfl) (by simp) (AllReadyH.cons (List.getElem?_toArray.trans rfl) (fun K hK=>?_) AllReadyH.nil)
  (refine zao (by rfl) (.tmp 7) (.tmp 10) 118 (by rfl) base 123 _ 4 64 Tryz.underlying118 zlb (by rfl) (by omega) _ L.length _ (by rfl) (zag AA.out.row (HW.out _)) (some ⟨_,0,none⟩) 1 1 (by rfl) (zbI rs (x,.slice a1 (recA x.tags).length c1,.slice a2 x.tags.length c2)) (by rfl) (fun e=>by cases e) (zav _ _ _ _ (by first | rfl | simp)) (by intro u hu;simp [zbI] at hu;rcases hu with rfl | rfl | rfl | rfl <;> rfl) (by unfold maxLen;omega) (by omega) (by simp;omega) ?_;intro a8 c8 w8 ho8 hg8 hl8)
  refine hK.out _ _ trivial (fun hHeld=>?_)
  clear hK K
  (first | simp only [pA,pZ,pS] | simp only [pN] | skip)
  have q8:w8.heap[lb]?=some (.cells #[.slice a L.length c] 118 (0,0)):=(hg8.out.block lb (by simp;omega) (Ne.symm hnB)).trans (((HW.out _).block lb (by omega)).trans HBX.out)
  have k8:w8.cell? ⟨lb,0,none⟩=some (.slice a L.length c):=by simp [World.cell?,q8]
  have f8:w8.frozen? ⟨lb,0,none⟩=false:=by simp [World.frozen?,q8]
  have F8:=hidA ((FrA.of_below (HW.out _) (by omega)).trans (FrA.grown (AA.out.bel (HW.out _)) rfl hg8.out (by simp;omega)))
  have A8:=hidA (AgO.snoc AA.out HX.out ho8.out F8.out)
  have Q8:=hidA q8
  clear ho8 hg8 hl8 q8
  refine tk 8 hHeld ?_
  (try simp only [pA,pZ,pS])
  refine wpAnyH_ready (rs:=[9]) (by kernel_rfl) (by simp) (AllReadyH.cons (List.getElem?_toArray.trans rfl) (fun K hK=>?_) AllReadyH.nil)
  go_simp
  refine hK.out _ _ trivial (fun hHeld=>?_)
  clear hK K
  (first | simp only [pA,pZ,pS] | simp only [pN] | skip)
  refine wpAnyH_done (by kernel_rfl) ?_ _
  refine NoPanic.normal ?_
  have F9:=hidA (F8.out.trans (FrA.box (v':=.slice a8 (L.length+1) c8) Q8.out hlb))
  have B9:=hidA (zaf (i:=0) Q8.out (.slice a8 (L.length+1) c8))
  have A9:=hidA (A8.out.fra (zbB A8.out.row Q8.out (by decide)) (FrA.box (v':=.slice a8 (L.length+1) c8) Q8.out hlb))
  clear k8 f8 k1 k0
  go_wp2_with fail
  go_end0
  exact ⟨⟨_,rfl⟩,⟨a8,c8,by simpa using B9.out,A9.out⟩,F9.out⟩
 ·go_simp
  refine hK.out _ _ trivial (fun hHeld=>?_)
  clear hK K
  (first | simp only [pA,pZ,pS] | simp only [pN] | skip)
  refine wpAnyH_ready (rs:=[3]) (by kernel_rfl) (by simp) (AllReadyH.cons (List.getElem?_toArray.trans rfl) (fun K hK=>?_) AllReadyH.nil)
  go_simp
  refine hK.out _ _ trivial (fun hHeld=>?_)
  clear hK K
  (first | simp only [pA,pZ,pS] | simp only [pN] | skip)
  refine wpAnyH_ready (rs:=[7]) (by kernel_rfl) (by simp) (AllReadyH.cons (List.getElem?_toArray.trans rfl) (fun K hK=>?_) AllReadyH.nil)
  (refine zao (by rfl) (.tmp 7) (.tmp 10) 118 (by rfl) base 123 _ 4 64 Tryz.underlying118 zlb (by rfl) (by omega) _ L.length _ (by rfl) (zag AA.out.row (HW.out _)) (some ⟨_,0,none⟩) 1 1 (by rfl) (zbI rs (x,.slice a1 (recA x.tags).length c1,.slice a2 x.tags.length c2)) (by rfl) (fun e=>by cases e) (zav _ _ _ _ (by first | rfl | simp)) (by intro u hu;simp [zbI] at hu;rcases hu with rfl | rfl | rfl | rfl <;> rfl) (by unfold maxLen;omega) (by omega) (by simp;omega) ?_;intro a8 c8 w8 ho8 hg8 hl8)
  refine hK.out _ _ trivial (fun hHeld=>?_)
  clear hK K
  (first | simp only [pA,pZ,pS] | simp only [pN] | skip)
  have q8:w8.heap[lb]?=some (.cells #[.slice a L.length c] 118 (0,0)):=(hg8.out.block lb (by simp;omega) (Ne.symm hnB)).trans (((HW.out _).block lb (by omega)).trans HBX.out)
  have k8:w8.cell? ⟨lb,0,none⟩=some (.slice a L.length c):=by simp [World.cell?,q8]
  have f8:w8.frozen? ⟨lb,0,none⟩=false:=by simp [World.frozen?,q8]
  have F8:=hidA ((FrA.of_below (HW.out _) (by omega)).trans (FrA.grown (AA.out.bel (HW.out _)) rfl hg8.out (by simp;omega)))
  have A8:=hidA (AgO.snoc AA.out HX.out ho8.out F8.out)
  have Q8:=hidA q8
  clear ho8 hg8 hl8 q8
  refine tk 8 hHeld ?_
  (try simp only [pA,pZ,pS])
  refine wpAnyH_ready (rs:=[9]) (by kernel_rfl) (by simp) (AllReadyH.cons (List.getElem?_toArray.trans rfl) (fun K hK=>?_) AllReadyH.nil)
  go_simp
  refine hK.out _ _ trivial (fun hHeld=>?_)
  clear hK K
  (first | simp only [pA,pZ,pS] | simp only [pN] | skip)
  refine wpAnyH_done (by kernel_rfl) ?_ _
  refine NoPanic.normal ?_
  have F9:=hidA (F8.out.trans (FrA.box (v':=.slice a8 (L.length+1) c8) Q8.out hlb))
  have B9:=hidA (zaf (i:=0) Q8.out (.slice a8 (L.length+1) c8))
  have A9:=hidA (A8.out.fra (zbB A8.out.row Q8.out (by decide)) (FrA.box (v':=.slice a8 (L.length+1) c8) Q8.out hlb))
  clear k8 f8 k1 k0
  go_wp2_with fail
  go_end0
  exact ⟨⟨_,rfl⟩,⟨a8,c8,by simpa using B9.out,A9.out⟩,F9.out⟩
end Go.Proofs.YtmmdlgjmplddiaaGreat
namespace Go.Proofs.YtmmdlgjmplddiaaGreat
open Go.RowKit
attribute [local go_sem ↓] Go.wp_at_zero Go.wp_at_succ
theorem zoG {w:World}{base:Nat}{e:TypeId}{m:Nat}{a:Option Addr}{n c k:Nat}{xs:List Value} (h:w.ownsRow base e m (.slice a n c) n xs) (hk:k≤n):w.ownsRow base e m (.slice a k c) k (xs.take (k * m)):=by
 have hl:(xs.take (k * m)).length=k * m:=by
  rw [List.length_take,h.1]
  exact Nat.min_eq_left (Nat.mul_le_mul_right m hk)
 refine ⟨hl,?_⟩
 rcases h.2 with ⟨h1,h2⟩ | ⟨g,cap,cur,h1,h2,h3,h4,h5,h6,h7⟩
 ·injection h1 with e1 e2 e3
  subst e1 e3
  obtain rfl:k=0:=by omega
  exact .inl ⟨rfl,rfl⟩
 ·injection h1 with e1 e2 e3
  subst e1 e3
  refine .inr ⟨g,c,cur,rfl,h2,h3,by omega,h5,h6,?_⟩
  rw [← h7,List.take_take]
  congr 1
  exact (Nat.min_eq_left (Nat.mul_le_mul_right m hk)).symm
theorem zgw (rs:List Ru) (L:List EnX):(L.flatMap (zbI rs)).length=L.length * 4:=by
 induction L with
 | nil=>rfl
 | cons x r ih=>rw [List.flatMap_cons,List.length_append,ih,List.length_cons,show (zbI rs x).length=4 from rfl];omega
theorem AgO.init {rs:List Ru}{w:World}{base:Nat}{a:Option Addr}{c:Nat}{L:List EnX}{x:EnX} (h:AgO rs w base a c (L ++ [x])):AgO rs w base a c L:=by
 have h1:=zoG h.row (k:=L.length) (by simp)
 rw [List.flatMap_append,List.take_append_of_le_length (by rw [zgw];exact Nat.le_refl _),List.take_of_length_le (by rw [zgw];exact Nat.le_refl _)] at h1
 exact ⟨h1,fun y hy=>h.all y (by simp [hy])⟩
theorem AgO.cap {rs:List Ru}{w:World}{base:Nat}{a:Option Addr}{c:Nat}{L:List EnX} (h:AgO rs w base a c L):L.length≤c:=by
 rcases h.row.2 with ⟨h1,h2⟩ | ⟨g,cap,cur,h1,_,_,h4,_⟩
 ·omega
 ·injection h1 with _ _ e3
  omega
def zkl (rs:List Ru) (x:EnX):Value:=.agg #[.int .i64 (zaZ rs x.1),x.2.1,.int .i64 x.1.rule,x.2.2]
set_option maxRecDepth 100000 in
set_option maxHeartbeats 3200000 in
theorem zms (rs:List Ru) (L:List EnX) (x:EnX) (base lb:Nat) (w:World) (h:AgB rs w base lb (L ++ [x])) (hlb:base≤lb) (hl:L.length≤1048576) :
  Calls Tryz.prog 203 #[.pointer (some ⟨lb,0,none⟩)] w fun e w'=>e=.returned (.iface 123 (zkl rs x))∧AgB rs w' base lb L∧FrA base w w':=by
 obtain ⟨a,c,hbx,hA⟩:=h
 have hlen:(L ++ [x]).length=L.length+1:=by simp
 obtain ⟨g,rfl,_,⟨c0,c1,c2,c3⟩,_⟩:=hA.get (i:=L.length) (x:=x) (by simp)
 have hx:=hA.all x (by simp)
 have hcap:=hA.cap
 obtain ⟨x,xr,xt⟩:=x
 obtain ⟨a1,b1,e1⟩:=hx.r
 obtain ⟨a2,b2,e2⟩:=hx.t
 simp only at e1 e2 c0 c1 c2 c3
 subst e1 e2
 rw [hlen] at hbx hcap
 unfold zkl
 have AA:=hidA hA
 have HBX:=hidA hbx
 have hlw:lb<w.heap.size:=zab hbx
 have k0:w.cell? ⟨lb,0,none⟩=some (.slice (some ⟨g,0,none⟩) (L.length+1) c):=by simp [World.cell?,hbx]
 have z0:(0:Int)≤(L.length:Int):=by omega
 have z1:(L.length:Int)<((L.length+1:Nat):Int):=by omega
 have z2:(L.length:Int)≤(c:Int):=by omega
 have z3:((L.length+1:Nat):Int) - 1=(L.length:Int):=by omega
 clear hx hbx hA hlen
 go_enter Tryz.func203,Tryz.ntmps203
 go_upto_region 3 with fail
 refine zaj ?_
 intro w1 hW1 hq1
 obtain ⟨tb,htb⟩:∃ b,b=w.heap.size:=⟨_,rfl⟩
 rw [← htb] at hq1 ⊢
 have hne:tb≠lb:=by omega
 have q1:=(hW1.block _ hlw).trans HBX.out
 have k1:w1.cell? ⟨lb,0,none⟩=some (.slice (some ⟨g,0,none⟩) (L.length+1) c):=by simp [World.cell?,q1]
 have f1:w1.frozen? ⟨lb,0,none⟩=false:=by simp [World.frozen?,q1]
 have d0:w1.cell? ⟨tb,0,none⟩=some (.int .i64 (zaZ rs x)):=by simp [World.cell?,hq1]
 have d1:w1.cell? ⟨tb,1,none⟩=some (.slice a1 (recA x.tags).length b1):=by simp [World.cell?,hq1]
 have d2:w1.cell? ⟨tb,2,none⟩=some (.int .i64 x.rule):=by simp [World.cell?,hq1]
 have d3:w1.cell? ⟨tb,3,none⟩=some (.slice a2 x.tags.length b2):=by simp [World.cell?,hq1]
 have A1:=hidA ((AA.out.bel hW1).init)
 have Q1:=hidA q1
 have F1:=hidA (FrA.of_below (base:=base) hW1 (by omega))
 clear hW1 hq1 q1 htb c0 c1 c2 c3 k0
 go_upto_region 4 with fail
 have F2:=hidA (F1.out.trans (FrA.box (v':=.slice (some ⟨g,0,none⟩) L.length c) Q1.out hlb))
 have B2:=hidA (zaf (i:=0) Q1.out (.slice (some ⟨g,0,none⟩) L.length c))
 have A2:=hidA (A1.out.fra (zbB A1.out.row Q1.out (by decide)) (FrA.box (v':=.slice (some ⟨g,0,none⟩) L.length c) Q1.out hlb))
 obtain ⟨w2,hw2⟩:∃ v,v=w1.setCell ⟨lb,0,none⟩ (.slice (some ⟨g,0,none⟩) L.length c):=⟨_,rfl⟩
 have m0:w2.cell? ⟨tb,0,none⟩=some (.int .i64 (zaZ rs x)):=by rw [hw2,World.cell?_setCell_far _ _ _ _ (Ne.symm hne)];exact d0
 have m1:w2.cell? ⟨tb,1,none⟩=some (.slice a1 (recA x.tags).length b1):=by rw [hw2,World.cell?_setCell_far _ _ _ _ (Ne.symm hne)];exact d1
 have m2:w2.cell? ⟨tb,2,none⟩=some (.int .i64 x.rule):=by rw [hw2,World.cell?_setCell_far _ _ _ _ (Ne.symm hne)];exact d2
 have m3:w2.cell? ⟨tb,3,none⟩=some (.slice a2 x.tags.length b2):=by rw [hw2,World.cell?_setCell_far _ _ _ _ (Ne.symm hne)];exact d3
 rw [← hw2] at F2 B2 A2 ⊢
 clear hw2 d0 d1 d2 d3 k1 f1 A1 Q1 F1
 go_wp2_with fail
 go_ret
 exact ⟨rfl,⟨_,c,by simpa using B2.out,A2.out⟩,F2.out⟩
end Go.Proofs.YtmmdlgjmplddiaaGreat
namespace Go.Proofs.YtmmdlgjmplddiaaGreat
open Go.RowKit
attribute [local go_sem ↓] Go.wp_at_zero Go.wp_at_succ
theorem zn1 {L M:List EnX}{k:Nat} (h:k<L.length):gn (L ++ M) k=gn L k:=by
 unfold gn
 rw [List.getElem?_append_left h]
theorem zgO {L M:List EnX}{k:Nat} (h:k<L.length):fn (L ++ M) k=fn L k:=by
 unfold fn
 rw [zn1 h]
theorem zl6 {rs:List Ru}{L M:List EnX} (h:zcE (befI rs) (fn L) L.length):zcE (befI rs) (fn (L ++ M)) L.length:=fun k hk h0=>by
 rw [zgO hk,zgO (by have:=zdg h0;omega)]
 exact h k hk h0
theorem zl7 {rs:List Ru}{L M:List EnX} (h:zcE (befI rs) (fn (L ++ M)) L.length):zcE (befI rs) (fn L) L.length:=fun k hk h0=>by
 have:=h k hk h0
 rw [zgO hk,zgO (by have:=zdg h0;omega)] at this
 exact this
theorem AgB.same {rs:List Ru}{w':World}{base lb:Nat}{L:List EnX}{a:Option Addr}{c:Nat} (hb:w'.heap[lb]?=some (.cells #[.slice a L.length c] 118 (0,0))) (h:AgO rs w' base a c L):AgB rs w' base lb L:=⟨a,c,hb,h⟩
theorem AgB.bel {rs:List Ru}{w w':World}{base lb:Nat}{L:List EnX} (h:AgB rs w base lb L) (hb:Below w.heap.size w w'):AgB rs w' base lb L:=by
 obtain ⟨a,c,h1,h2⟩:=h
 exact ⟨a,c,(hb.block _ (zab h1)).trans h1,h2.bel hb⟩
set_option maxRecDepth 100000 in
set_option maxHeartbeats 3200000 in
theorem zhv (rs:List Ru) (L:List EnX) (base lb:Nat) (x:In) (a1 a2:Option Addr) (c1 c2:Nat) (w:World) (h:AgB rs w base lb L) (hh:zcE (befI rs) (fn L) L.length) (hx:EnP rs w base (x,.slice a1 (recA x.tags).length c1,.slice a2 x.tags.length c2)) (hlb:base≤lb) (hl:L.length≤1000000) :
  Calls Tryz.prog 40 #[agI lb,.iface 123 (enV rs x a1 c1 a2 c2)] w fun e w'=>(∃ v,e=.returned v)∧(∃ L',AgB rs w' base lb L'∧L'.Perm (L ++ [(x,.slice a1 (recA x.tags).length c1,.slice a2 x.tags.length c2)])∧zcE (befI rs) (fn L') L'.length)∧FrA base w w':=by
 have HPU:=hidA (zj3 rs L base lb x a1 a2 c1 c2 w h hx hlb (by omega))
 have hmP:=zmT lb
 obtain ⟨y,hy⟩:∃ y:EnX,y=(x,.slice a1 (recA x.tags).length c1,.slice a2 x.tags.length c2):=⟨_,rfl⟩
 rw [← hy] at HPU ⊢
 have HH:=hidA (zl6 (M:=[y]) hh)
 have hlw:lb<w.heap.size:=by obtain ⟨_,_,h1,_⟩:=h;exact zab h1
 obtain ⟨ev,hev⟩:∃ v,v=enV rs x a1 c1 a2 c2:=⟨_,rfl⟩
 rw [← hev] at HPU ⊢
 unfold agI
 clear hh hx hy hev h
 go_enter Tryz.func40,Tryz.ntmps40
 go_wp2_with fail
 refine HPU.out.mono ?_
 rintro e w1 ⟨⟨v1,rfl⟩,⟨a,c,hbx,hA⟩,hf⟩
 have F1:=hidA hf
 have A1:=hidA hA
 have B1:=hidA hbx
 have hlen:(L ++ [y]).length=L.length+1:=by simp
 have hmL:=zmi hbx
 rw [hlen] at hmL
 have HUP:=hidA (zoZ rs (L ++ [y]) a c base lb L.length w1 hA hbx (by rw [hlen];exact HH.out.snoc) (by rw [hlen];omega) (by rw [hlen];omega))
 unfold agI at HUP
 have hs1:=hf.bel.size
 have z3:((L.length+1:Nat):Int) - 1=(L.length:Int):=by omega
 clear hbx hA hf HPU hmP
 go_wp2_with fail
 refine (zdV a (L.length+1) c w1).mono ?_
 rintro e w2 ⟨rfl,rfl⟩
 clear hmL
 go_wp2_with fail
 refine HUP.out.mono ?_
 rintro e w3 ⟨⟨v3,rfl⟩,L',hA3,hp3,hh3,hm3⟩
 have A3:=hidA hA3
 have B3:=hidA (zfs A1.out rfl B1.out hm3)
 have F3:=hidA (F1.out.trans (FrA.mko A1.out rfl hm3 (by omega)))
 have P3:=hidA hp3
 have HL3:=hidA hp3.length_eq
 have H3:=hidA hh3
 clear hA3 hp3 hh3 hm3 HUP
 go_wp2_with fail
 go_end0
 exact ⟨⟨_,rfl⟩,⟨L',⟨a,c,by rw [HL3.out];exact B3.out,A3.out⟩,P3.out,by rw [HL3.out];exact H3.out⟩,F3.out⟩
set_option maxRecDepth 100000 in
set_option maxHeartbeats 3200000 in
theorem ziS (rs:List Ru) (L:List EnX) (n base lb:Nat) (w:World) (h:AgB rs w base lb L) (hn:L.length=n+1) (hh:zcE (befI rs) (fn L) L.length) (hlb:base≤lb) (hl:L.length≤1000000) :
  Calls Tryz.prog 76 #[agI lb] w fun e w'=>∃ x L',e=.returned (.iface 123 (zkl rs x))∧AgB rs w' base lb L'∧L'.length=n∧(L' ++ [x]).Perm L∧x=gn L 0∧zcE (befI rs) (fn L') n∧FrA base w w':=by
 obtain ⟨a,c,hbx,hA⟩:=h
 obtain ⟨x0,hx0⟩:∃ x,L[0]?=some x:=⟨L[0]'(by omega),by simp⟩
 obtain ⟨xn,hxn⟩:∃ x,L[n]?=some x:=⟨L[n]'(by omega),by simp⟩
 have hlw:lb<w.heap.size:=zab hbx
 have hbw:base≤w.heap.size:=by omega
 have HSW:=hidA (zc3 rs L a c base 0 n x0 xn w hA hx0 hxn)
 have hmL:=zmi hbx
 have hmS:=zdX hbx
 have A0:=hidA hA
 have B0:=hidA hbx
 have G0:=hidA (zeO hx0)
 have HD:=hidA (show zeb (befI rs) (fn (zcb L 0 n x0 xn)) n 0 by rw [zfn hx0 hxn];rw [hn] at hh;exact zeb.start hh)
 have HG:=hidA (show gn (zcb L 0 n x0 xn) n=x0 by
  rw [zhl hx0 hxn]
  unfold zdj
  by_cases e:n=0
  ·subst e
   rw [if_pos rfl]
   exact zeO hx0
  ·rw [if_neg e,if_pos rfl]
   exact zeO hx0)
 have HP0:=hidA (zc5 hx0 hxn)
 have z3:((n+1:Nat):Int) - 1=(n:Int):=by omega
 have HN:=hidA hn
 rw [hn] at hmL hmS HSW
 clear hx0 hxn hbx hA hh
 unfold agI
 go_enter Tryz.func76,Tryz.ntmps76
 go_wp2_with fail
 refine (zdV a (n+1) c w).mono ?_
 rintro e w1 ⟨rfl,rfl⟩
 clear hmL
 go_wp2_with fail
 refine HSW.out.mono ?_
 rintro e w2 ⟨⟨v2,rfl⟩,hA2,hm2⟩
 have M2:=hidA hm2
 have B2:=hidA (zfs A0.out HN.out (by rw [← HN.out];exact B0.out) hm2)
 have F2:=hidA (FrA.mko A0.out HN.out hm2 hbw)
 have hl2:(zcb L 0 n x0 xn).length=n+1:=by rw [zie];exact HN.out
 have A2:=hidA hA2
 have HDN:=hidA (zmX rs (zcb L 0 n x0 xn) a c base lb n w2 hA2 (by rw [hl2];exact B2.out) HD.out (by omega) (by omega))
 unfold agI at HDN
 have hs2:=hm2.rest.size
 clear hA2 hm2 HSW hmS HD
 go_wp2_with fail
 refine HDN.out.mono ?_
 rintro e w3 ⟨⟨v3,rfl⟩,L3,hA3,hp3,hh3,hg3,hm3⟩
 have hl3:L3.length=n+1:=hp3.length_eq.trans hl2
 have hsp:L3=L3.take n ++ [x0]:=by
  have e1:L3[n]?=some x0:=by
   have e2:gn L3 n=x0:=hg3.trans HG.out
   have e3:L3[n]?=some (L3[n]'(by omega)):=List.getElem?_eq_getElem _
   rw [zeO e3] at e2
   rw [e3,e2]
  have e4:=List.take_add_one (l:=L3) (i:=n)
  rw [e1] at e4
  have e5:L3.take (n+1)=L3:=List.take_of_length_le (by omega)
  rw [e5] at e4
  exact e4
 obtain ⟨T,hT⟩:∃ T,T=L3.take n:=⟨_,rfl⟩
 rw [← hT] at hsp
 have hTl:T.length=n:=by rw [hT,List.length_take];omega
 subst hsp
 rw [hl2] at hm3
 have B3:=hidA (zfs A2.out hl2 B2.out hm3)
 have F3:=hidA (F2.out.trans (FrA.mko A2.out hl2 hm3 (by omega)))
 have P3:=hidA (hp3.trans HP0.out)
 have H3:=hidA (show zcE (befI rs) (fn T) n by rw [← hTl] at hh3 ⊢;exact zl7 hh3)
 have hmP:=zoF lb
 have HPO:=hidA (zms rs T x0 base lb w3 ⟨a,c,by rw [List.length_append,hTl];exact B3.out,hA3⟩ hlb (by omega))
 have HTL:=hidA hTl
 clear hA3 hp3 hh3 hg3 hm3 HDN hl3 hT hTl hl2
 go_wp2_with fail
 refine HPO.out.mono ?_
 rintro e w4 ⟨rfl,hB4,hf4⟩
 have B4:=hidA hB4
 have F4:=hidA (F3.out.trans hf4)
 clear hB4 hf4 HPO hmP
 go_wp2_with fail
 go_ret
 exact ⟨x0,T,rfl,B4.out,HTL.out,P3.out,G0.out.symm,H3.out,F4.out⟩
end Go.Proofs.YtmmdlgjmplddiaaGreat
namespace Go.Proofs.YtmmdlgjmplddiaaGreat
open Go.RowKit Go.Maps
attribute [local go_sem ↓] Go.wp_at_zero Go.wp_at_succ
def zdd (w:World) (b:Nat) (x:AlX) (i:Nat) (v:Value):Prop:=w.heap[b]?=some (.cells #[.string x.1.cls,.int .i64 x.1.arity,x.2,.int .i64 (i:Int),v] 99 (0,0))
theorem zdd.facts {w:World}{b:Nat}{x:AlX}{i:Nat}{v:Value} (h:zdd w b x i v):(w.cell? ⟨b,0,none⟩=some (.string x.1.cls)∧w.cell? ⟨b,1,none⟩=some (.int .i64 x.1.arity)∧w.cell? ⟨b,2,none⟩=some x.2∧w.cell? ⟨b,4,none⟩=some v)∧w.frozen? ⟨b,4,none⟩=false∧b<w.heap.size:=by
 unfold zdd at h
 refine ⟨⟨?_,?_,?_,?_⟩,?_,zab h⟩ <;> simp [World.cell?,World.frozen?,h]
theorem zdd.set4 {w:World}{b:Nat}{x:AlX}{i:Nat}{v:Value} (h:zdd w b x i v) (y:Value):zdd (w.setCell ⟨b,4,none⟩ y) b x i y:=by
 have:=zaf (i:=4) h y
 simpa [zdd] using this
theorem zkD {P:World→Prop}{w:World}{b:Nat}{x:AlX}{i:Nat}{v y:Value} (h0:zdd w b x i v) (h:∀ wt,zdd wt b x i y→Turned w wt b→P wt):P (w.setCell ⟨b,4,none⟩ y):=h _ (h0.set4 y) (Turned.setCells [y] 4 w b)
theorem zdd.num {w:World}{b:Nat}{x y:AlX}{i j:Nat}{u v:Value} (h:zdd w b x i u) (k:zdd w b y j v):i=j:=by
 unfold zdd at h k
 rw [h] at k
 simp at k
 omega
def sel (x:Al) (Q:List (Value × F)):List (Value × F):=Q.filter (fun y=>passes x y.2)
theorem zez {x:Al}{Q:List (Value × F)}{p:Value}{f:F} (h:passes x f=true):sel x (Q ++ [(p,f)])=sel x Q ++ [(p,f)]:=by
 unfold sel
 rw [List.filter_append]
 simp [h]
theorem ziZ {x:Al}{Q:List (Value × F)}{p:Value}{f:F} (h:passes x f=false):sel x (Q ++ [(p,f)])=sel x Q:=by
 unfold sel
 rw [List.filter_append]
 simp [h]
structure FrT (base:Nat) (w w':World):Prop where
 rest:Below base w w'
 kept:∀ (k:Nat) (c:Array Value) (t:TypeId) (fr:Nat × Nat),w.heap[k]?=some (.cells c t fr)→t≠99→t≠75→w'.heap[k]?=some (.cells c t fr)
theorem FrT.refl (base:Nat) (w:World):FrT base w w:=⟨Below.refl _ _,fun _ _ _ _ h _ _=>h⟩
theorem FrT.trans {base:Nat}{u v w:World} (h:FrT base u v) (k:FrT base v w):FrT base u w:=⟨h.rest.trans k.rest,fun j c t fr hj h1 h2=>k.kept j c t fr (h.kept j c t fr hj h1 h2) h1 h2⟩
theorem FrT.of_below {base:Nat}{w w':World} (h:Below w.heap.size w w') (hb:base≤w.heap.size):FrT base w w':=⟨h.mono hb,fun k _ _ _ hk _ _=>(h.block k (zab hk)).trans hk⟩
theorem FrT.own {base B:Nat}{w w':World}{e:TypeId}{m:Nat}{v:Value}{n:Nat}{xs:List Value} (h:FrT base w w') (ho:w.ownsRow B e m v n xs) (h1:e≠99) (h2:e≠75):w'.ownsRow B e m v n xs:=
 zae ho fun k hk=>by
  obtain ⟨c,hc⟩:=zai ho hk
  rw [h.kept k _ _ _ hc h1 h2,hc]
structure NF (w:World) (base gb mb:Nat) (la:Option Addr) (lc:Nat) (L:List AlX) (bs:List Nat) (V:List Value) (QQ:Nat→List (Value × F)):Prop where
 box:GB w gb mb (.slice la L.length lc)
 row:w.ownsRow base 100 1 (.slice la L.length lc) L.length (ptrs bs)
 lenb:bs.length=L.length
 lenv:V.length=L.length
 node:∀ (i:Nat) (x:AlX) (b:Nat) (v:Value),L[i]?=some x→bs[i]?=some b→V[i]?=some v→zdd w b x i v∧base≤b∧(∃ fa fc,v=.slice fa (sel x.1 (QQ i)).length fc)∧w.ownsRow base 75 1 v (sel x.1 (QQ i)).length ((sel x.1 (QQ i)).map Prod.fst)
 als:∀ x∈L,AlP w base x
 apart:∀ (i j:Nat) (u v:Value),V[i]?=some u→V[j]?=some v→i≠j→Apart u v
theorem NF.bel {w w':World}{base gb mb:Nat}{la:Option Addr}{lc:Nat}{L:List AlX}{bs:List Nat}{V:List Value}{QQ:Nat→List (Value × F)} (h:NF w base gb mb la lc L bs V QQ) (hb:Below w.heap.size w w'):NF w' base gb mb la lc L bs V QQ:=
 ⟨(hb.block gb (zab h.box)).trans h.box,zag h.row hb,h.lenb,h.lenv,fun i x b v hx hb' hv=>by
  obtain ⟨h1,h2,h3,h4⟩:=h.node i x b v hx hb' hv
  exact ⟨(hb.block b (zab h1)).trans h1,h2,h3,zag h4 hb⟩,fun x hx=>(h.als x hx).bel hb,h.apart⟩
theorem NF.same {w:World}{base gb mb:Nat}{la:Option Addr}{lc:Nat}{L:List AlX}{bs:List Nat}{V:List Value}{QQ QQ':Nat→List (Value × F)} (h:NF w base gb mb la lc L bs V QQ) (he:∀ i x,L[i]?=some x→sel x.1 (QQ i)=sel x.1 (QQ' i)):NF w base gb mb la lc L bs V QQ':=
 ⟨h.box,h.row,h.lenb,h.lenv,fun i x b v hx hb' hv=>by
  rw [← he i x hx]
  exact h.node i x b v hx hb' hv,h.als,h.apart⟩
theorem NF.ofNS {kl:Al→Lit}{w:World}{base gb mb:Nat}{la:Option Addr}{lc:Nat}{L:List AlX}{bs:List Nat}{D:DataW Unit} (h:NS kl w base gb mb la lc L bs D):NF w base gb mb la lc L bs (List.replicate L.length (.slice none 0 0)) (fun _=>[]):=by
 refine ⟨h.box,h.row,by have:=h.inv.len;simpa using this,by simp,fun i x b v hx hb hv=>?_,h.als,fun i j u v hu hv _ g hg=>?_⟩
 ·have e:=List.eq_of_mem_replicate (List.mem_of_getElem? hv)
  subst e
  exact ⟨(h.node i x b hx hb).1,(h.node i x b hx hb).2,⟨none,0,rfl⟩,World.ownsRow_nil _ _ _ _⟩
 ·have e:=List.eq_of_mem_replicate (List.mem_of_getElem? hu)
  subst e
  cases hg
theorem NF.push {w w7 w8:World}{base gb mb:Nat}{la:Option Addr}{lc:Nat}{L:List AlX}{bs:List Nat}{V:List Value}{QQ:Nat→List (Value × F)}{m b:Nat}{x:AlX}{v p:Value}{f:F}{o:Obj}{fa:Option Addr}{fc:Nat}
  (h:NF w base gb mb la lc L bs V QQ) (hx:L[m]?=some x) (hb:bs[m]?=some b) (hv:V[m]?=some v) (hp:passes x.1 f=true) (hbase:base≤w.heap.size)
  (ho7:w7.ownsRow base 75 1 (.slice fa ((sel x.1 (QQ m)).length+1) fc) ((sel x.1 (QQ m)).length+1) ((sel x.1 (QQ m)).map Prod.fst ++ [p])) (hg7:(w.alloc o).grownBy w7 v.ownBlock)
  (hl7:(Value.slice fa ((sel x.1 (QQ m)).length+1) fc).ownBlock=v.ownBlock∨(Value.slice fa ((sel x.1 (QQ m)).length+1) fc).ownBlock=some (w.alloc o).heap.size)
  (hN8:zdd w8 b x m (.slice fa ((sel x.1 (QQ m)).length+1) fc)) (ht8:Turned w7 w8 b) :
  NF w8 base gb mb la lc L bs (V.set m (.slice fa ((sel x.1 (QQ m)).length+1) fc)) (fun i=>if i=m then QQ m ++ [(p,f)] else QQ i)∧FrT base w w8:=by
 obtain ⟨n1,n2,n3,n4⟩:=h.node m x b v hx hb hv
 have hml:m<V.length:=(List.getElem?_eq_some_iff.1 hv).1
 have hs7:=hg7.size
 simp at hs7
 have stay:∀ k,k<w.heap.size→k≠b→v.ownBlock≠some k→w8.heap[k]?=w.heap[k]?:=fun k hk h1 h2=>by
  rw [ht8.block k h1,hg7.block k (by simp;omega) (fun e=>h2 e.symm),Below.heap_alloc _ _ _ hk]
 have stayC:∀ (k:Nat) (c:Array Value) (t:TypeId) (fr:Nat × Nat),w.heap[k]?=some (.cells c t fr)→t≠99→t≠75→w8.heap[k]?=some (.cells c t fr):=fun k c t fr hk h1 h2=>by
  refine (stay k (zab hk) (fun e=>?_) (fun e=>?_)).trans hk
  ·subst e
   exact zaA hk n1 h1
  ·obtain ⟨c',hc'⟩:=zai n4 e
   exact zaA hk hc' h2
 have stayO:∀ {e:TypeId}{m:Nat}{v:Value}{n:Nat}{xs:List Value},w.ownsRow base e m v n xs→e≠99→e≠75→w8.ownsRow base e m v n xs:=fun ho h1 h2=>zae ho fun k hk=>by
  obtain ⟨c,hc⟩:=zai ho hk
  rw [stayC k _ _ _ hc h1 h2,hc]
 have hb8:b<w.heap.size:=n1.facts.2.2
 have hold:∀ (i:Nat) (u:Value),V[i]?=some u→i≠m→∃ (x':AlX) (b':Nat),L[i]?=some x'∧bs[i]?=some b':=fun i u hu _=>by
  have hi:i<V.length:=(List.getElem?_eq_some_iff.1 hu).1
  have e1:=h.lenv
  have e2:=h.lenb
  exact ⟨L[i]'(by omega),bs[i]'(by omega),by simp,by simp⟩
 have hnew:∀ (i:Nat) (u:Value),V[i]?=some u→i≠m→∀ g,u.ownBlock=some g→(Value.slice fa ((sel x.1 (QQ m)).length+1) fc).ownBlock≠some g:=fun i u hu hi g hg hg'=>by
  obtain ⟨x',b',hx',hb'⟩:=hold i u hu hi
  have hlt:=((h.node i x' b' u hx' hb' hu).2.2.2.lt g hg).2
  rcases hl7 with hl | hl
  ·rw [hl] at hg'
   exact h.apart i m u v hu hv hi g hg hg'
  ·rw [hl] at hg'
   injection hg' with hg'
   simp at hg'
   omega
 refine ⟨⟨stayC gb _ _ _ h.box (by decide) (by decide),stayO h.row (by decide) (by decide),h.lenb,by simp [h.lenv],fun i x' b' u hx' hb' hu=>?_,fun y hy=>⟨(h.als y hy).1,stayO (h.als y hy).2 (by decide) (by decide)⟩,fun i j u u' hu hu' hij=>?_⟩,⟨?_,stayC⟩⟩
 ·by_cases hi:i=m
  ·subst hi
   rw [hx] at hx'
   rw [hb] at hb'
   cases hx'
   cases hb'
   rw [List.getElem?_set_self hml] at hu
   cases hu
   refine ⟨hN8,n2,⟨fa,fc,?_⟩,?_⟩
   ·simp [zez hp]
   ·have ho8:w8.ownsRow base 75 1 (.slice fa ((sel x.1 (QQ i)).length+1) fc) ((sel x.1 (QQ i)).length+1) ((sel x.1 (QQ i)).map Prod.fst ++ [p]):=zae ho7 fun k hk=>ht8.block k (fun e=>by
     obtain ⟨c,hc⟩:=zai ho7 hk
     subst e
     have hG7:w7.heap[k]?=w.heap[k]?:=by
      rw [hg7.block k (by simp;omega) (fun e=>by obtain ⟨c',hc'⟩:=zai n4 e.symm;exact zaA n1 hc' (by decide)),Below.heap_alloc _ _ _ hb8]
     rw [hG7] at hc
     exact zaA n1 hc (by decide))
    simpa [zez hp] using ho8
  ·rw [List.getElem?_set_ne (fun e=>hi e.symm)] at hu
   obtain ⟨k1,k2,k3,k4⟩:=h.node i x' b' u hx' hb' hu
   simp only [if_neg hi]
   refine ⟨(stay b' (zab k1) (fun e=>?_) (fun e=>?_)).trans k1,k2,k3,?_⟩
   ·subst e
    exact hi (k1.num n1)
   ·obtain ⟨c',hc'⟩:=zai n4 e
    exact zaA k1 hc' (by decide)
   ·refine zae k4 fun k hk=>stay k (k4.lt k hk).2 (fun e=>?_) (fun e=>h.apart i m u v hu hv hi k hk e)
    subst e
    obtain ⟨c',hc'⟩:=zai k4 hk
    exact zaA n1 hc' (by decide)
 ·by_cases hi:i=m
  ·subst hi
   rw [List.getElem?_set_self hml] at hu
   rw [List.getElem?_set_ne hij] at hu'
   cases hu
   intro g hg hg'
   exact hnew j u' hu' (fun e=>hij e.symm) g hg' hg
  ·rw [List.getElem?_set_ne (fun e=>hi e.symm)] at hu
   by_cases hj:j=m
   ·subst hj
    rw [List.getElem?_set_self hml] at hu'
    cases hu'
    exact fun g hg=>hnew i u hu hi g hg
   ·rw [List.getElem?_set_ne (fun e=>hj e.symm)] at hu'
    exact h.apart i j u u' hu hu' hij
 ·refine (((Below.refl base w).alloc hbase _).grown hg7 (by simp;omega) (fun k hk=>(n4.lt k hk).1)).trans (ht8.below n2)
theorem zoS:(Tryz.prog.info? 75).map (fun i=>(i.zero,i.size,i.bytes))=some (some (.pointer none),1,8):=by kernel_rfl
theorem zot {w:World}{p:Value}{f:F} (h:zcG w p f):p.oneCell'=true:=by
 obtain ⟨b,o,rfl,_⟩:=h
 rfl
theorem zdd.nd {w:World}{b base:Nat}{x:AlX}{i:Nat}{v:Value} (h:zdd w b x i v) (ha:AlP w base x):∃ a c,NdAt w b x.1 a c:=by
 obtain ⟨⟨a,c,e⟩,ho⟩:=ha
 obtain ⟨⟨h0,h1,h2,_⟩,_⟩:=h.facts
 rw [e] at h2 ho
 exact ⟨a,c,h0,h1,h2,zcp.owns ho⟩
set_option maxRecDepth 100000 in
set_option maxHeartbeats 6400000 in
theorem zhP (base gb mb:Nat) (la:Option Addr) (lc:Nat) (L:List AlX) (bs:List Nat) (V:List Value) (Q:List (Value × F)) (pf:Value) (f:F) (wA w:World) (hA:Below wA.heap.size wA w) (hAB:wA.heap.size≤base) (hF:zcG wA pf f) (hN:NF w base gb mb la lc L bs V (fun _=>Q)) (hB:base≤w.heap.size) (hL:L.length≤1000) (hQ:Q.length≤1000) (h6:∀ x∈L,x.1.tests.length≤1048576) :
  Calls Tryz.prog 53 #[.pointer (some ⟨gb,0,none⟩),pf] w fun e w'=>e=.returned (.tuple #[])∧(∃ V',NF w' base gb mb la lc L bs V' (fun _=>Q ++ [(pf,f)]))∧FrT base w w':=by
 obtain ⟨fb,fo,hpf⟩:∃ fb fo,pf=.pointer (some ⟨fb,fo,none⟩):=by
  obtain ⟨fb,fo,h,_⟩:=hF
  exact ⟨fb,fo,h⟩
 subst hpf
 have HA:=hidP hA
 have HF:=hidP hF
 have HN:=hidP hN
 have H6:=hidP h6
 have hFA:=hidP (zot hF)
 obtain ⟨⟨g0,g1⟩,_,hgl⟩:=hN.box.facts
 clear hA hF hN h6
 go_enter Tryz.func53,Tryz.ntmps53
 go_wp2_with fail
 clear g0 g1
 go_loopw [11] (fun iv wr=>∃ (k:Nat) (V':List Value),iv=.int .i64 (k:Int)∧k≤L.length∧NF wr base gb mb la lc L bs V' (fun i=>if i<k then Q ++ [(.pointer (some ⟨fb,fo,none⟩),f)] else Q)∧FrT base w wr) (fun iv _=>L.length - (intOf iv).toNat)
 case atStart=>exact ⟨0,V,rfl,Nat.zero_le _,HN.out.same (fun i x _=>by simp),FrT.refl _ _⟩
 case round=>
  obtain ⟨k,V',rfl,hkl,hNr,hFr⟩:=hrel
  have NR:=hidP hNr
  have FR:=hidP hFr
  have hsr:=hFr.rest.size
  have AR:=hidP (HA.out.trans (hFr.rest.mono hAB))
  clear hNr hFr HN
  by_cases hk:k<L.length
  ·obtain ⟨x,hx⟩:∃ x,L[k]?=some x:=⟨L[k],by simp [hk]⟩
   obtain ⟨nb,hnb⟩:∃ b,bs[k]?=some b:=⟨bs[k]'(by rw [NR.out.lenb];exact hk),by simp⟩
   obtain ⟨v,hv⟩:∃ v,V'[k]?=some v:=⟨V'[k]'(by rw [NR.out.lenv];exact hk),by simp⟩
   obtain ⟨rb,rfl,_,r0,_⟩:=zam NR.out.row (show (ptrs bs)[k]?=some (.pointer (some ⟨nb,0,none⟩)) by simp [ptrs,hnb])
   obtain ⟨n1,n2,⟨fa,fc,rfl⟩,n4⟩:=NR.out.node k x nb v hx hnb hv
   simp only [Nat.lt_irrefl,if_false] at hv n1 n4
   obtain ⟨na,nc,hnd⟩:=n1.nd (NR.out.als x (List.mem_of_getElem? hx))
   have HP:=hidP (zf3 nb x.1 na nc (.pointer (some ⟨fb,fo,none⟩)) f wr hnd (HF.out.below AR.out) (H6.out x (List.mem_of_getElem? hx)))
   have hsl:(sel x.1 Q).length≤1000:=Nat.le_trans (List.length_filter_le _ _) hQ
   have z0:(0:Int)≤(k:Int):=by omega
   have z1:(k:Int)<(L.length:Int):=by omega
   have HX:=hidP hx
   have HNB:=hidP hnb
   have HVV:=hidP hv
   clear hx hnb hv n1 n4 hnd
   cases hm:passes x.1 f
   ·have HM:=hidP hm
    rw [hm] at HP
    clear hm
    go_wp2_with fail
    refine HP.out.mono ?_
    rintro e w3 ⟨rfl,hb3⟩
    have N3:=hidP (NR.out.bel hb3)
    have F3:=hidP (FR.out.trans (FrT.of_below hb3 (by omega)))
    clear hb3 HP r0
    go_wp2_with fail
    go_roundw
    case rel=>
     refine ⟨k+1,V',by go_num,by omega,N3.out.same (fun i y hy=>?_),F3.out⟩
     by_cases h1:i<k
     ·simp [h1,show i<k+1 by omega]
     ·by_cases h2:i=k
      ·subst h2
       rw [HX.out] at hy
       cases hy
       simp [ziZ HM.out]
      ·simp [h1,show ¬ i<k+1 by omega]
    case measure=>(simp [intOf];omega)
   ·have HM:=hidP hm
    rw [hm] at HP
    clear hm
    go_wp2_with fail
    refine HP.out.mono ?_
    rintro e w3 ⟨rfl,hb3⟩
    have N3:=hidP (NR.out.bel hb3)
    have F3:=hidP (FR.out.trans (FrT.of_below hb3 (by omega)))
    have hs3:=hb3.size
    clear hb3 HP r0
    obtain ⟨n1,_,_,n4⟩:=N3.out.node k x nb _ HX.out HNB.out HVV.out
    simp only [Nat.lt_irrefl,if_false] at n4
    have N1:=hidP n1
    have N4:=hidP n4
    obtain ⟨⟨_,_,_,y4⟩,_,hbl⟩:=n1.facts
    have HW:=hidP (fun o=>(Below.refl _ _).alloc (Nat.le_refl _) o:∀ o,Below w3.heap.size w3 (w3.alloc o))
    have y4':∀ o,(w3.alloc o).cell? ⟨nb,4,none⟩=some (.slice fa (sel x.1 Q).length fc):=fun o=>zaa (HW.out o) y4
    have HNF:=hidP (fun o=>(show zdd (w3.alloc o) nb x k (.slice fa (sel x.1 Q).length fc) from ((HW.out o).block nb hbl).trans N1.out))
    have TY:=hidP (fun o g hg=>zai (zag N4.out (HW.out o)) (k:=g) hg)
    have hB3:base≤w3.heap.size:=by omega
    clear n1 n4
    go_upto_region 5 with (first | (at_builtin;refine zad (by rfl) (.tmp 22) (.tmp 24) 97 (by rfl) base 75 _ 1 8 Tryz.underlying97 zoS (by rfl) (by omega) _ (sel x.1 Q).length _ (by rfl) (zag N4.out (HW.out _)) (some ⟨_,0,none⟩) 1 1 (by rfl) [.pointer (some ⟨fb,fo,none⟩)] (by rfl) (fun e=>by cases e) (zav _ _ _ _ (by first | rfl | simp)) (by intro u hu;rw [List.mem_singleton] at hu;rw [hu];exact hFA.out) (by unfold maxLen;omega) (by omega) (Nat.le_trans hB3 (HW.out _).size) ?_;intro a7 c7 w7 ho7 hg7 hl7;have N7:=hidP (show zdd w7 nb x k (.slice fa (sel x.1 Q).length fc) from zaI (HNF.out _) hg7.out (TY.out _) (by decide));obtain ⟨_,z4,_⟩:=N7.out.facts) | fail)
    refine zkD N7.out ?_
    intro w8 hN8 ht8
    have hR:=NF.push (QQ:=fun i=>if i<k then Q ++ [(.pointer (some ⟨fb,fo,none⟩),f)] else Q) (p:=.pointer (some ⟨fb,fo,none⟩)) (f:=f) (fa:=a7) (fc:=c7) N3.out HX.out HNB.out HVV.out HM.out hB3 (by simpa using ho7.out) hg7.out (by simpa using hl7.out) (by simpa using hN8) ht8
    have HR:=hidP hR
    clear hR hN8 ht8
    go_wp2_with fail
    go_roundw
    case rel=>
     refine ⟨k+1,_,by go_num,by omega,HR.out.1.same (fun i y hy=>?_),F3.out.trans HR.out.2⟩
     by_cases h1:i<k
     ·simp [h1,show i<k+1 by omega,show i≠k by omega]
     ·by_cases h2:i=k
      ·subst h2
       simp
      ·simp [h1,h2,show ¬ i<k+1 by omega]
    case measure=>(simp [intOf];omega)
  ·have hke:k=L.length:=by omega
   subst hke
   have hy:¬ (L.length:Int)<(L.length:Int):=by omega
   go_wp2_with fail
   go_end0
   refine ⟨rfl,⟨V',NR.out.same (fun i y hy=>?_)⟩,FR.out⟩
   have hi:=(List.getElem?_eq_some_iff.1 hy).1
   simp [hi]
end Go.Proofs.YtmmdlgjmplddiaaGreat
