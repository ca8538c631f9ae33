/-
  OUR OWN TEXT. Dw9, Dw10, one behind the other.
-/
import Derived.Test.YtmmdlgjmplddiaaGreatKbm
import Derived.Test.YtmmdlgjmplddiaaGreatKbp
import Derived.Deep.DeepCutAuto
namespace Go.Proofs.YtmmdlgjmplddiaaGreat
open Go.RowKit
attribute [local go_sem ↓] Go.wp_at_zero Go.wp_at_succ
def ruV (nm:ByteArray) (sal:Int) (p e a:Value):Value:=.agg #[.string nm,.int .i64 sal,p,e,a]
def RB (w:World) (b:Nat) (nm:ByteArray) (sal:Int) (p e a:Value):Prop:=w.heap[b]?=some (.cells #[.string nm,.int .i64 sal,p,e,a] 35 (0,0))
def PB (w:World) (b:Nat) (neg:Bool) (cls:ByteArray) (t:Value):Prop:=w.heap[b]?=some (.cells #[.bool neg,.string cls,t] 38 (0,0))
theorem PB.facts {w:World}{b:Nat}{neg:Bool}{cls:ByteArray}{t:Value} (h:PB w b neg cls t):(w.cell? ⟨b,0,none⟩=some (.bool neg)∧w.cell? ⟨b,1,none⟩=some (.string cls)∧w.cell? ⟨b,2,none⟩=some t)∧(∀ j,w.frozen? ⟨b,j,none⟩=false)∧b<w.heap.size:=by
 unfold PB at h
 refine ⟨⟨?_,?_,?_⟩,fun j=>?_,zab h⟩ <;> simp [World.cell?,World.frozen?,h]
abbrev nilS:Value:=.slice none 0 0
theorem RB.facts {w:World}{b:Nat}{nm:ByteArray}{sal:Int}{p e a:Value} (h:RB w b nm sal p e a):(w.cell? ⟨b,0,none⟩=some (.string nm)∧w.cell? ⟨b,1,none⟩=some (.int .i64 sal)∧w.cell? ⟨b,2,none⟩=some p∧w.cell? ⟨b,3,none⟩=some e∧w.cell? ⟨b,4,none⟩=some a)∧(∀ j,w.frozen? ⟨b,j,none⟩=false)∧b<w.heap.size:=by
 unfold RB at h
 refine ⟨⟨?_,?_,?_,?_,?_⟩,fun j=>?_,zab h⟩ <;> simp [World.cell?,World.frozen?,h]
theorem zjz:(Tryz.prog.info? 9).map (fun i=>(i.zero,i.size,i.bytes))=some (some (.string ⟨#[]⟩),1,16):=by kernel_rfl
theorem zn8:(Tryz.prog.info? 115).map (fun i=>(i.zero,i.size,i.bytes))=some (some (.agg #[.int .i64 0,.int .i64 0,.string ⟨#[]⟩,.int .i64 0,.int .i64 0,.string ⟨#[]⟩]),6,64):=by kernel_rfl
theorem zof:(Tryz.prog.info? 38).map (fun i=>(i.zero,i.size,i.bytes))=some (some (.agg #[.bool false,.string ⟨#[]⟩,.slice none 0 0]),3,48):=by kernel_rfl
theorem zln (ks:List ByteArray):∀ u∈ks.map Value.string,u.oneCell'=true:=by
 intro u hu
 obtain ⟨s,_,rfl⟩:=List.mem_map.1 hu
 rfl
theorem zol {w:World}{base n:Nat}{e:TypeId}{a:Option Addr}{c:Nat}{xs:List Value} (h:w.ownsRow base e 1 (.slice a n c) n xs):(a=none→n=0)∧∀ ad,a=some ad→∀ (j:Nat) u,xs[j]?=some u→w.cell? (ad.add j)=some u:=by
 constructor
 ·intro ha
  rcases h.2 with ⟨_,h0⟩ | ⟨g,cap,cur,he,_⟩
  ·exact h0
  ·subst ha
   simp at he
 ·intro ad ha j u hu
  obtain ⟨g,hg,_,hc,_⟩:=zam h hu
  rw [hg] at ha
  injection ha with ha
  subst ha
  rw [Addr.add_mid,Nat.zero_add]
  exact hc
theorem zoY (k:Nat) (hk:k<10):(⟨#[114]⟩:ByteArray) ++ digB k=nmK k:=by
 have:∀ k:Fin 10,(⟨#[114]⟩:ByteArray) ++ digB k.val=nmK k.val:=by decide
 exact this ⟨k,hk⟩
def PK (L:List PtV) (K:List ByteArray) (pos:Nat):Prop:=za9 (L.map Prod.fst) [] 1=.inr K∧positives (L.map Prod.fst)=pos
theorem PK.nil:PK [] [] 0:=⟨rfl,rfl⟩
theorem PK.snoc {L:List PtV}{K K' H:List ByteArray}{pos pos':Nat}{neg:Bool}{cls:ByteArray}{ts:List Tm}{v:Value} (h:PK L K pos) (ht:zap ts K=some H) (hp:pos'=pos∧neg=true∨pos'=pos+1∧neg=false) (hK:K'=(if neg then K else H)):PK (L ++ [(⟨neg,cls,ts⟩,v)]) K' pos':=by
 constructor
 ·rw [List.map_append,hK]
  exact zdE h.1 (p:=⟨neg,cls,ts⟩) ht
 ·have:=h.2
  unfold positives at this ⊢
  rw [List.map_append,List.countP_append,this]
  rcases hp with ⟨rfl,rfl⟩ | ⟨rfl,rfl⟩ <;> rfl
theorem zoc {K:List ByteArray}{t:Tm} (h:zgN K t) (hk:(t.kind==2)=true):GNm t.var:=by
 refine ⟨h.1.1,?_⟩
 have h2:=h.1.2.2
 have e:t.kind=2:=by simpa using hk
 simp [gTm,e] at h2
 exact h2.2.1
theorem zhs:(Tryz.prog.info? 200).map (fun i=>(i.zero,i.size,i.bytes))=some (some (.agg #[.int .i64 0,.int .i64 0,.string ⟨#[]⟩,.slice none 0 0]),4,56):=by kernel_rfl
def AB (w:World) (b:Nat) (x0 x1 x2 x3:Value):Prop:=w.heap[b]?=some (.cells #[x0,x1,x2,x3] 200 (0,0))
theorem AB.facts {w:World}{b:Nat}{x0 x1 x2 x3:Value} (h:AB w b x0 x1 x2 x3):(w.cell? ⟨b,0,none⟩=some x0∧w.cell? ⟨b,1,none⟩=some x1∧w.cell? ⟨b,2,none⟩=some x2∧w.cell? ⟨b,3,none⟩=some x3)∧(∀ j,w.frozen? ⟨b,j,none⟩=false)∧b<w.heap.size:=by
 unfold AB at h
 refine ⟨⟨?_,?_,?_,?_⟩,fun j=>?_,zab h⟩ <;> simp [World.cell?,World.frozen?,h]
theorem Qs.setQ {g b o:Nat}{ow:Option Nat}{u v:World}{x:Value} (h:Qs g b ow u v) (hg:g<b):Qs g b ow u (v.setCell ⟨b,o,none⟩ x):=
 ⟨h.rest.setCell (Nat.zero_le _) _,fun k hk h1 h2 h3=>(Below.heap_setCell _ _ _ _ (by simpa using h2)).trans (h.block k hk h1 h2 h3),h.rdr.old ((Below.refl _ _).setCell (by simp;omega) _)⟩
theorem QB.setOther {w:World}{b base d o:Nat}{x0 x1 x2 x4:Value}{a:Option Addr}{c:Nat}{xs:List Ex}{t:TypeId}{cd:Array Value}{fr:Nat × Nat}{v:Value} (h:QB w b base x0 x1 x2 x4 a c xs) (hd:w.heap[d]?=some (.cells cd t fr)) (h1:t≠35) (h2:t≠240):QB (w.setCell ⟨d,o,none⟩ v) b base x0 x1 x2 x4 a c xs:=by
 refine ⟨(Below.heap_setCell _ _ _ _ (fun e=>?_)).trans h.1,zbB h.2.1 hd h2,h.2.2⟩
 have e':b=d:=e
 subst e'
 exact zaA hd h.1 h1
def AQ (K:List ByteArray) (pos:Nat) (w:World) (b base:Nat) (x0 x1 x2:Value) (Ys:List AcV):Prop:=∃ (aa:Option Addr) (ac:Nat) (a:Option Addr) (c:Nat) (xs:List Ex) (m:Nat),QB w b base x0 x1 x2 (.slice aa Ys.length ac) a c xs∧(xs.length≤7 * m∧xs.length≤50+m∧m≤3 * Ys.length∧zcP K pos 0 xs (Ys.map Prod.fst))∧AcO w base aa ac Ys
theorem zeW {K:List ByteArray}{pos m m':Nat}{xs ys:List Ex}{Ys:List AcV}{A:Ac}{v:Value} (h:zcP K pos 0 xs (Ys.map Prod.fst)) (hA:zay A=true∧A.args.length≤6∧zbe pos A=true) (ht:Trees K xs.length ys A.args) (h7:(xs ++ ys).length≤7 * m') (h5:(xs ++ ys).length≤50+m') (hm:m'≤m+3) (hm3:m≤3 * Ys.length) :
  (xs ++ ys).length≤7 * m'∧(xs ++ ys).length≤50+m'∧m'≤3 * (Ys ++ [(A,v)]).length∧zcP K pos 0 (xs ++ ys) ((Ys ++ [(A,v)]).map Prod.fst):=by
 refine ⟨h7,h5,by simp;omega,?_⟩
 rw [List.map_append]
 exact h.snoc hA (by simpa using ht)
theorem zoC (pos:Nat):zay ⟨4,0,⟨#[]⟩,[]⟩=true∧(⟨4,0,⟨#[]⟩,[]⟩:Ac).args.length≤6∧zbe pos ⟨4,0,⟨#[]⟩,[]⟩=true:=⟨by simp [zay,zcR],by simp,by simp [zbe]⟩
theorem zoH {pos:Nat}{z:Int} (h:1≤z∧z≤(pos:Int)) (hp:pos≤3):zay ⟨2,z,⟨#[]⟩,[]⟩=true∧(⟨2,z,⟨#[]⟩,[]⟩:Ac).args.length≤6∧zbe pos ⟨2,z,⟨#[]⟩,[]⟩=true:=⟨by simp [zay,zcR,kOk];omega,by simp,by simp [zbe];omega⟩
theorem zoV {pos:Nat}{z:Int}{zs:List Int} (h:1≤z∧z≤(pos:Int)) (hp:pos≤3) (hz:zs.length≤3):zay ⟨3,z,⟨#[]⟩,zs⟩=true∧(⟨3,z,⟨#[]⟩,zs⟩:Ac).args.length≤6∧zbe pos ⟨3,z,⟨#[]⟩,zs⟩=true:=⟨by simp [zay,zcR,kOk];omega,by simp;omega,by simp [zbe];omega⟩
theorem zpn {pos:Nat}{cl:ByteArray}{zs:List Int} (h:GCl cl) (hz:zs.length≤3):zay ⟨1,0,cl,zs⟩=true∧(⟨1,0,cl,zs⟩:Ac).args.length≤6∧zbe pos ⟨1,0,cl,zs⟩=true:=⟨by simp [zay,h.2],by simp;omega,by simp [zbe]⟩
theorem AcO.snoc {w w9:World}{base:Nat}{a a9:Option Addr}{c c9:Nat}{Y:List AcV}{x:AcV} (h:AcO w base a c Y) (hx:AcP w base x) (ho:w9.ownsRow base 200 4 (.slice a9 (Y.length+1) c9) (Y.length+1) (Y.flatMap acells ++ acells x)) (hg:w.grownBy w9 (Value.slice a Y.length c).ownBlock):AcO w9 base a9 c9 (Y ++ [x]):=by
 refine ⟨by simpa using ho,fun y hy=>?_⟩
 have hy':AcP w base y:=by
  rcases List.mem_append.1 hy with hy | hy
  ·exact h.2 y hy
  ·simp at hy
   exact hy ▸ hx
 exact ⟨hy'.1,zbh (t:=200) hy'.2 hg (fun k hk=>zai h.1 hk) (by decide)⟩
theorem ziu {P:World→Prop}{w:World}{ab pos:Nat}{kd kk:Int}{x0 x1 x2 x3:Value} (hA:AB w ab x0 x1 x2 x3) (hk:1≤kk∧kk≤(pos:Int)) (h:∀ wt z,(1≤z∧z≤(pos:Int))→AB wt ab (.int .i64 kd) (.int .i64 z) x2 x3→Turned w wt ab→P wt):P ((w.setCell ⟨ab,0,none⟩ (.int .i64 kd)).setCell ⟨ab,1,none⟩ (.int .i64 kk)):=
 h _ kk hk (by have:=zaf (i:=1) (zaf (i:=0) hA (.int .i64 kd)) (.int .i64 kk);simpa [AB] using this) (Turned.setCells [.int .i64 kd,.int .i64 kk] 0 w ab)
theorem zjN {P:World→Prop}{w:World}{ab:Nat}{x0 x1 x2 x3 v:Value} (hA:AB w ab x0 x1 x2 x3) (h:∀ wt,AB wt ab v x1 x2 x3→Turned w wt ab→P wt):P (w.setCell ⟨ab,0,none⟩ v):=
 h _ (by have:=zaf (i:=0) hA v;simpa [AB] using this) (Turned.setCells [v] 0 w ab)
theorem zjv {P:World→Prop}{w:World}{ab:Nat}{x0 x1 x2 x3 v:Value} (hA:AB w ab x0 x1 x2 x3) (h:∀ wt,AB wt ab x0 x1 x2 v→Turned w wt ab→P wt):P (w.setCell ⟨ab,3,none⟩ v):=
 h _ (by have:=zaf (i:=3) hA v;simpa [AB] using this) (Turned.setCells [v] 3 w ab)
theorem zmU {P:World→Prop}{w:World}{ab:Nat}{x0 x1 x2 x3 v:Value} (hA:AB w ab x0 x1 x2 x3) (h:∀ wt,AB wt ab x0 x1 v x3→Turned w wt ab→P wt):P (w.setCell ⟨ab,2,none⟩ v):=
 h _ (by have:=zaf (i:=2) hA v;simpa [AB] using this) (Turned.setCells [v] 2 w ab)
theorem Rs.qs {g b:Nat}{o:Option Nat}{u v:World} (h:Qs g b o u v) (w0:World) (h0:Rs g w0 u) (hb:w0.heap.size≤b) (ho:∀ k,o=some k→w0.heap.size≤k):Rs g w0 v:=
 ⟨⟨h0.1.rest.trans h.rest,fun k hk hne=>(h.block k (Nat.lt_of_lt_of_le hk h0.1.rest.size) (fun e=>hne (by rw [e])) (by omega) (fun e=>by have:=ho k e;omega)).trans (h0.1.block k hk hne)⟩,h.rdr⟩
theorem PO.qs {w w':World}{base g b:Nat}{o:Option Nat}{a:Option Addr}{c:Nat}{L:List PtV}{cb:Array Value} (h:PO w base a c L) (hq:Qs g b o w w') (hg:g<base) (hb:w.heap[b]?=some (.cells cb 35 (0,0))) (ho:o=none):PO w' base a c L:=by
 subst ho
 have key:∀ {e:TypeId}{m:Nat}{v:Value}{n:Nat}{xs:List Value},w.ownsRow base e m v n xs→e≠35→w'.ownsRow base e m v n xs:=fun hh hne=>zae hh fun k hk=>hq.block k (hh.lt k hk).2 (by have:=(hh.lt k hk).1;omega) (fun e=>by
  obtain ⟨cc,hcc⟩:=zai hh hk
  subst e
  exact zaA hcc hb hne) (by simp)
 exact ⟨key h.1 (by decide),fun x hx=>⟨(h.2 x hx).1,key (h.2 x hx).2.1 (by decide),(h.2 x hx).2.2⟩⟩
theorem mod8 {n c:Nat} (h:n % 8=c):(n:Int) % 8=(c:Int):=by omega
theorem zn4:(Tryz.prog.info? 35).map (·.size)=some 5:=by kernel_rfl
set_option maxRecDepth 100000 in
set_option maxHeartbeats 12800000 in
theorem zga (g k:Nat) (w:World) (h:Rdr w g) (hk:k<10) :
  Calls Tryz.prog 84 #[.pointer (some ⟨g,0,none⟩),.int .i64 (k:Int)] w fun e w'=>∃ x:RuX,e=.returned (ruV x.nm x.sal x.pv x.ev x.av)∧DRu k x.ru∧(-9223372036854775808≤x.sal∧x.sal≤9223372036854775807)∧RuP w' w.heap.size x∧Rs g w w':=by
 have H:=hidR h
 have hlt:=h.lt
 clear h
 have HA:=hidR (fun o=>(Below.refl _ _).alloc (Nat.le_refl _) o:∀ o,Below w.heap.size w (w.alloc o))
 have HRa:=hidR (fun o=>H.out.bel (HA.out o))
 go_enter Tryz.func84,Tryz.ntmps84
 go_wp2_with fail
 refine (zbb g _ (HRa.out _)).mono ?_
 rintro e w1 ⟨n1,hn1,rfl,hr1⟩
 have RB1:=hidR (zaC hr1 (heap_alloc_new _ _) (by omega))
 have R1:=hidR ((Rs.of H.out (HA.out _)).trans hr1)
 have hs1:w.heap.size<w1.heap.size:=zab RB1.out
 clear hr1 HA HRa H
 go_wp2_with fail
 refine (zkX k w1 hk).mono ?_
 rintro e w2 ⟨rfl,hb2⟩
 have hs2:=hb2.size
 have RB2:=hidR ((hb2.block _ hs1).trans RB1.out)
 have R2:=hidR (R1.out.bel hb2)
 clear hb2 RB1 R1
 go_upto_if 28 with fail
 refine zaj ?_
 intro w3 hW3 hq3
 obtain ⟨nm,hnm⟩:∃ nm,nm=(⟨#[114]⟩:ByteArray) ++ digB k:=⟨_,rfl⟩
 have HNK:=hidR (show nm=nmK k from by rw [hnm];exact zoY k hk)
 have hs3:=hW3.size
 have RB3:=hidR (show RB w3 w.heap.size _ _ _ _ _ from (hW3.block _ (by omega)).trans RB2.out)
 have Q3:=hidR (show RB w3 w2.heap.size _ _ _ _ _ from hq3)
 have R3:=hidR (R2.out.bel hW3)
 clear hW3 hq3 RB2 R2
 go_cut [] (fun wx=>∃ sal,(-9223372036854775808≤sal∧sal≤9223372036854775807)∧RB wx w2.heap.size (⟨#[114]⟩ ++ digB k) sal nilS nilS nilS∧RB wx w.heap.size ⟨#[]⟩ 0 nilS nilS nilS∧Rs g w wx)
 case first=>
  obtain ⟨⟨f0,f1,f2,f3,f4⟩,z,hlt3⟩:=Q3.out.facts
  have z1:=z 1
  clear z
  by_cases h255:n1=255
  ·subst h255
   go_wp2_with fail
   go_meet
   exact ⟨-9223372036854775808,by omega,by have:=zaf (i:=1) Q3.out (.int .i64 (-9223372036854775808));simpa [RB] using this,(Below.heap_setCell _ _ _ _ (by simp;omega)).trans RB3.out,R3.out.setOwn (by omega) hlt⟩
  ·have h255':¬ (n1:Int)=255:=by omega
   go_wp2_with fail
   go_meet
   exact ⟨_,by omega,Q3.out,RB3.out,R3.out⟩
 case rest=>
  obtain ⟨sal,hsal,hq,hrb,hR⟩:=hcut
  have Q4:=hidR hq
  have RB4:=hidR hrb
  have R4:=hidR hR
  obtain ⟨n0,hn0⟩:∃ n0,n0=1+n1 / 5 % 4:=⟨_,rfl⟩
  have hn0e:1+(n1:Int) / 5 % 4=(n0:Int):=by omega
  have hn01:1≤n0∧n0≤4:=by omega
  obtain ⟨bq,hbq⟩:∃ bq,bq=w2.heap.size:=⟨_,rfl⟩
  have hbqw:w.heap.size<bq:=by omega
  have hs4:=hR.1.rest.size
  rw [← hbq] at Q4 ⊢
  clear hq hrb hR Q3 RB3 R3 hn0 hbq
  rw [← hnm] at Q4
  clear hnm
  go_wp2_with fail
  clear hn0e
  go_loopw [7,8,9] (fun posv kv nv wr=>∃ (pos:Nat) (L:List PtV) (pa:Option Addr) (pc:Nat) (ka:Option Addr) (kn kc:Nat) (K:List ByteArray),posv=.int .i64 (pos:Int)∧kv=.slice ka kn kc∧nv=.int .i64 ((n0:Int) - (L.length:Int))∧pos≤3∧pos≤L.length∧L.length≤6∧(pos=0→L.length≤5)∧RB wr bq nm sal (.slice pa L.length pc) nilS nilS∧RB wr w.heap.size ⟨#[]⟩ 0 nilS nilS nilS∧PO wr w.heap.size pa pc L∧SO K wr w.heap.size ka kn kc∧kn≤3 * L.length∧PK L K pos∧Rs g w wr) (fun _ _ nv _=>(intOf nv+10).toNat)
  case atStart=>exact ⟨0,[],none,0,none,0,0,[],rfl,rfl,by simp,by omega,by simp,by simp,by simp,Q4.out,RB4.out,PO.nil _ _,⟨by omega,[],⟨rfl,rfl⟩,by simp,World.ownsRow_nil _ _ _ _⟩,by simp,PK.nil,R4.out⟩
  case round=>
   obtain ⟨pos,L,pa,pc,ka,kn,kc,K,rfl,rfl,rfl,hp3,hpL,hL6,hp0,hq,hrb,hPO,hSO,hkn,hPK,hR⟩:=hrel
   have HPK:=hidR hPK
   clear hPK
   have Q:=hidR hq
   have RBr:=hidR hrb
   have PL:=hidR hPO
   have KO:=hidR hSO
   have R:=hidR hR
   have hsr:=hR.1.rest.size
   clear hq hrb hPO hSO hR Q4 RB4 R4
   by_cases hgo:L.length<n0∨pos=0
   ·go_upto_region 8 with fail
    go_cut [39] (fun c wx=>c=.bool true∧wr=wx)
    case first=>
     by_cases hmn:L.length<n0
     ·have hmn':(0:Int)<(n0:Int) - (L.length:Int):=by omega
      go_wp2_with fail
      go_meet
      exact ⟨rfl,rfl⟩
     ·have hmn':¬ (0:Int)<(n0:Int) - (L.length:Int):=by omega
      have hpe:((pos:Int)==0)=true:=by simp;omega
      go_wp2_with fail
      go_meet
      exact ⟨by simp,rfl⟩
    case rest=>
     obtain ⟨hc1,hc2⟩:=hcut
     subst hc1
     subst hc2
     have HRr:=hidR R.out.2
     go_wp2_with fail
     refine (zbb g _ HRr.out).mono ?_
     rintro e wa ⟨n2,hn2,rfl,hra⟩
     have RA:=hidR hra
     have hsa:=hra.1.rest.size
     clear hra HRr
     go_upto_region 11 with fail
     go_cut [11] (fun pv wx=>∃ (pb:Nat) (neg:Bool) (cls:ByteArray),pv=.pointer (some ⟨pb,0,none⟩)∧wr.heap.size≤pb∧PB wx pb neg cls nilS∧GCl cls∧(neg=false→pos≠3)∧Rs g wr wx)
     case first=>
      by_cases h43:n2 % 4=3
      ·go_wp2_with fail
       refine (zfv n2 wa).mono ?_
       rintro e wb ⟨cls,hcls,rfl,hbb⟩
       have RBb:=hidR (RA.out.bel hbb)
       have hsb:=hbb.size
       clear hbb
       go_wp2_with fail
       go_meet
       exact ⟨wb.heap.size,true,cls,rfl,by omega,heap_alloc_new _ _,hcls,by simp,RBb.out.bel ((Below.refl _ _).alloc (Nat.le_refl _) _)⟩
      ·have h43':((n2:Int) % 4==3)=false:=by simp;omega
       go_wp2_with fail
       refine (zfv n2 wa).mono ?_
       rintro e wb ⟨cls,hcls,rfl,hbb⟩
       have RBb:=hidR (RA.out.bel hbb)
       have hsb:=hbb.size
       clear hbb
       cases hp33':((pos:Int)==3)
       rotate_left
       ·have HP:=hidR hp33'
        go_wp2_with fail
        go_meet
        exact ⟨wb.heap.size,true,cls,rfl,by omega,heap_alloc_new _ _,hcls,by simp,RBb.out.bel ((Below.refl _ _).alloc (Nat.le_refl _) _)⟩
       ·have HP:=hidR hp33'
        go_wp2_with fail
        go_meet
        exact ⟨wb.heap.size,false,cls,rfl,by omega,heap_alloc_new _ _,hcls,fun _ hh=>by subst hh;simp at hp33',RBb.out.bel ((Below.refl _ _).alloc (Nat.le_refl _) _)⟩
     case rest=>
      obtain ⟨pb,neg,cls,rfl,hpb,hPB,hcls,hneg,hRp⟩:=hcut
      obtain ⟨wp,rfl⟩:∃ v,v=wc:=⟨wc,rfl⟩
      have P1:=hidR hPB
      have RP:=hidR hRp
      have Q1:=hidR (show RB wp bq nm sal (.slice pa L.length pc) nilS nilS from zaC hRp Q.out (by omega))
      have hsp:=hRp.1.rest.size
      clear hPB hRp RA
      go_upto_region 12 with fail
      go_cut [61] (fun c wx=>c=.bool (((L.length:Int)==5) && ((pos:Int)==0))∧wp=wx)
      case first=>
       obtain ⟨⟨f0,f1,f2,f3,f4⟩,z,hlt3⟩:=Q1.out.facts
       clear z
       cases h5:((L.length:Int)==5)
       ·go_wp2_with fail
        go_meet
        exact ⟨by simp [h5],rfl⟩
       ·cases hpz:((pos:Int)==0)
        ·go_wp2_with fail
         go_meet
         exact ⟨by simp [h5,hpz],rfl⟩
        ·go_wp2_with fail
         go_meet
         exact ⟨by simp [h5,hpz],rfl⟩
      case rest=>
       obtain ⟨hc1,hc2⟩:=hcut
       subst hc1
       subst hc2
       go_upto_if 61 with fail
       go_cut [] (fun wx=>∃ neg',PB wx pb neg' cls nilS∧(neg'=false→pos≠3)∧(L.length=5→pos=0→neg'=false)∧Rs g wr wx)
       case first=>
        obtain ⟨⟨p0,p1,p2⟩,z,hltp⟩:=P1.out.facts
        have z0:=z 0
        clear z
        cases hcb:(((L.length:Int)==5) && ((pos:Int)==0))
        ·go_wp2_with fail
         go_meet
         exact ⟨neg,P1.out,hneg,fun h1 h2=>by rw [h1,h2] at hcb;simp at hcb,RP.out⟩
        ·go_wp2_with fail
         go_meet
         refine ⟨false,?_,fun _ h3=>by rw [h3] at hcb;simp at hcb,fun _ _=>rfl,RP.out.setOwn hpb (by omega)⟩
         have:=zaf (i:=0) P1.out (.bool false)
         simpa [PB] using this
       case rest=>
        obtain ⟨neg',hPB',hneg',hneg5,hRq⟩:=hcut
        obtain ⟨wq,rfl⟩:∃ v,v=wc:=⟨wc,rfl⟩
        have P2:=hidR hPB'
        have RQ:=hidR hRq
        have hsq:=hRq.1.rest.size
        have hgr:g<wr.heap.size:=by omega
        obtain ⟨hk1000,ks,hksl,hkss,hkown⟩:=KO.out.rs RQ.out hlt
        have HKN:=hidR (zol hkown)
        have HKL:=hidR hksl
        have HKS:=hidR hkss
        clear hPB' hRq hkown hksl hkss P1 RP Q1 hneg
        go_upto_region 16 with (first | (at_builtin;refine zad (by rfl) (.tmp 63) (.tmp 64) 202 (by rfl) wq.heap.size 9 _ 1 16 Tryz.underlying202 zjz (by rfl) (by omega) _ 0 [] (by rfl) (World.ownsRow_nil _ _ _ _) ka kn kc (by rfl) (ks.map Value.string) (by simp [HKL.out.2]) HKN.out.1 HKN.out.2 (zln ks) (by unfold maxLen;omega) (by omega) (Nat.le_refl _) ?_;intro a3 c3 w3 ho3 hg3 hl3;simp only [Nat.zero_add]) | fail)
        have RH:=hidR (RQ.out.grown hg3.out (fun k hk=>by simp [Value.ownBlock] at hk) hgr)
        have HS3:=hidR (show SO K w3 wr.heap.size a3 kn c3 from ⟨hk1000,ks,HKL.out,HKS.out,by have:=ho3.out;rw [Nat.zero_add,List.nil_append] at this;exact zan this hsq⟩)
        have P3:=hidR (show PB w3 pb neg' cls nilS from (hg3.out.block pb (zab P2.out) (by simp [Value.ownBlock])).trans P2.out)
        have hs3':=hg3.out.size
        clear ho3 hg3 hl3 HKN HKL HKS P2 RQ
        go_cut [13] (fun mv wx=>∃ m0:Nat,m0≤3∧mv=.int .i64 (m0:Int)∧Below w3.heap.size w3 wx)
        case first=>
         have h6:n2 / 12 % 6=0∨n2 / 12 % 6=1∨n2 / 12 % 6=2∨n2 / 12 % 6=3∨n2 / 12 % 6=4∨n2 / 12 % 6=5:=by omega
         rcases h6 with h6 | h6 | h6 | h6 | h6 | h6
         all_goals
          go_wp2_with fail
          go_meet
         ·exact ⟨1,by omega,rfl,(Below.refl _ _).alloc (Nat.le_refl _) _⟩
         ·exact ⟨2,by omega,rfl,(Below.refl _ _).alloc (Nat.le_refl _) _⟩
         ·exact ⟨2,by omega,rfl,(Below.refl _ _).alloc (Nat.le_refl _) _⟩
         ·exact ⟨1,by omega,rfl,(Below.refl _ _).alloc (Nat.le_refl _) _⟩
         ·exact ⟨0,by omega,rfl,(Below.refl _ _).alloc (Nat.le_refl _) _⟩
         ·exact ⟨3,by omega,rfl,(Below.refl _ _).alloc (Nat.le_refl _) _⟩
        case rest=>
         obtain ⟨m0,hm3,rfl,hb4⟩:=hcut
         obtain ⟨w4,rfl⟩:∃ v,v=wc:=⟨wc,rfl⟩
         have RI:=hidR (RH.out.bel hb4)
         have SI:=hidR (show SO K w4 wr.heap.size a3 kn c3 from by obtain ⟨q1,q2,q3,q4,q5⟩:=HS3.out;exact ⟨q1,q2,q3,q4,zag q5 hb4⟩)
         have PI:=hidR (show PB w4 pb neg' cls nilS from (hb4.block pb (zab P3.out)).trans P3.out)
         have hs4':=hb4.size
         clear hb4 RH HS3 P3
         obtain ⟨wR,rfl⟩:∃ v,v=wr:=⟨wr,rfl⟩
         go_wp2_with fail
         go_loopw [12,13] (fun hv mv wr=>∃ (j:Nat) (ha:Option Addr) (hn hc:Nat) (ta:Option Addr) (tc:Nat) (ts:List Tm) (Hh:List ByteArray),mv=.int .i64 (j:Int)∧hv=.slice ha hn hc∧ts.length+j=m0∧SO Hh wr wR.heap.size ha hn hc∧hn≤kn+ts.length∧zap ts K=some Hh∧PB wr pb neg' cls (.slice ta ts.length tc)∧wr.ownsRow wR.heap.size 115 6 (.slice ta ts.length tc) ts.length (ts.flatMap za2)∧(∀ t∈ts,TmSm t)∧Rs g wR wr) (fun _ mv _=>(intOf mv).toNat)
         case atStart=>exact ⟨m0,a3,kn,c3,none,0,[],K,rfl,rfl,by simp,SI.out,by simp,rfl,PI.out,World.ownsRow_nil _ _ _ _,by simp,RI.out⟩
         case round=>
          obtain ⟨j,ha,hn,hc,ta,tc,ts,Hh,rfl,rfl,hj,hSO,hhn,htg,hPB,hTO,htsm,hRi⟩:=hrel
          have HJ:=hidR hj
          have HTG:=hidR htg
          clear htg
          have htl:ts.length≤3:=by omega
          have hj3:j≤3:=by omega
          have SOi:=hidR hSO
          have PBi:=hidR hPB
          have TOi:=hidR hTO
          have HTS:=hidR htsm
          have Ri:=hidR hRi
          have hsi:=hRi.1.rest.size
          clear hj hSO hPB hTO htsm hRi SI PI RI
          by_cases hj0:j=0
          ·clear HJ
           subst hj0
           have RW:=hidR (R.out.trans Ri.out)
           have Qi:=hidR (show RB wr bq nm sal (.slice pa L.length pc) nilS nilS from zaC Ri.out Q.out (by omega))
           have RBi:=hidR (show RB wr w.heap.size ⟨#[]⟩ 0 nilS nilS nilS from zaC Ri.out RBr.out (by omega))
           have PLi:=hidR (PL.out.rs Ri.out hlt)
           have KOi:=hidR (KO.out.rs Ri.out hlt)
           have SOw:=hidR (show SO Hh wr w.heap.size ha hn hc from by obtain ⟨q1,q2,q3,q4,q5⟩:=SOi.out;exact ⟨q1,q2,q3,q4,zan q5 hsr⟩)
           have NX:=hidR (show PtX wr w.heap.size (⟨neg',cls,ts⟩,.slice ta ts.length tc) from ⟨⟨ta,tc,rfl⟩,zan TOi.out hsr,hcls,htl,HTS.out⟩)
           obtain ⟨⟨p0,p1,p2⟩,z,hpbl⟩:=PBi.out.facts
           clear z SOi TOi HTS Q RBr PL KO R
           go_upto_if 95 with fail
           go_cut [7,8] (fun pv kv wx=>∃ (pos':Nat) (ka':Option Addr) (kn' kc':Nat) (K':List ByteArray),pv=.int .i64 (pos':Int)∧kv=.slice ka' kn' kc'∧(pos'=pos∧neg'=true∨pos'=pos+1∧neg'=false)∧SO K' wr w.heap.size ka' kn' kc'∧K'=(if neg' then K else Hh)∧kn'≤3 * L.length+3∧wr=wx)
           case first=>
            cases hng:neg'
            ·rw [hng] at p0
             go_wp2_with fail
             go_meet
             exact ⟨pos+1,ha,hn,hc,Hh,by go_num,rfl,.inr ⟨rfl,by first | rfl | exact hng⟩,SOw.out,by simp [hng],by omega,rfl⟩
            ·rw [hng] at p0
             go_wp2_with fail
             go_meet
             exact ⟨pos,ka,kn,kc,K,rfl,rfl,.inl ⟨rfl,by first | rfl | exact hng⟩,KOi.out,by simp [hng],by omega,rfl⟩
           case rest=>
            obtain ⟨pos',ka',kn',kc',K',rfl,rfl,hpos',hSO',hK',hkn',hcw⟩:=hcut
            subst hcw
            have SOz:=hidR hSO'
            have HPO:=hidR hpos'
            clear hSO' hpos' KOi SOw
            obtain ⟨⟨f0,f1,f2,f3,f4⟩,z,hlq⟩:=Qi.out.facts
            clear z
            have HWi:=hidR (fun o=>(Below.refl _ _).alloc (Nat.le_refl _) o:∀ o,Below wr.heap.size wr (wr.alloc o))
            have TY:=hidR (fun o k hk=>zai (zag PLi.out.1 (HWi.out o)) (k:=k) hk)
            go_wp2_with (first | (at_builtin;refine zad (by rfl) (.tmp 100) (.tmp 102) 31 (by rfl) w.heap.size 38 _ 3 48 Tryz.underlying31 zof (by rfl) (by omega) _ L.length _ (by rfl) (zag PLi.out.1 (HWi.out _)) (some ⟨_,0,none⟩) 1 1 (by rfl) (pcells (⟨neg',cls,ts⟩,.slice ta ts.length tc)) (by rfl) (fun e=>by cases e) (zav _ _ _ _ (by simp)) (zj2 _ rfl) (by unfold maxLen;omega) (by omega) (by simp;omega) ?_;intro a9 c9 w9 ho9 hg9 hl9;have Q9:=hidR (show RB w9 bq nm sal (.slice pa L.length pc) nilS nilS from zaI (((HWi.out _).block _ hlq).trans Qi.out) hg9.out (TY.out _) (by decide));obtain ⟨⟨k0,k1,k2,k3,k4⟩,z,hk9⟩:=Q9.out.facts;have z2:=z 2;clear z) | fail)
            go_roundw
            case rel=>
             have hS9:SO K' w9 w.heap.size ka' kn' kc':=by
              obtain ⟨q1,q2,q3,q4,q5⟩:=SOz.out
              exact ⟨q1,q2,q3,q4,zbh (zag q5 (HWi.out _)) hg9.out (TY.out _) (by decide)⟩
             have hPO9:PO w9 w.heap.size a9 c9 (L ++ [(⟨neg',cls,ts⟩,.slice ta ts.length tc)]):=PO.snoc (PLi.out.bel (HWi.out _)) (NX.out.bel (HWi.out _)) ho9.out hg9.out
             have hRB9:RB w9 w.heap.size ⟨#[]⟩ 0 nilS nilS nilS:=zaI (((HWi.out _).block _ (zab RBi.out)).trans RBi.out) hg9.out (TY.out _) (by decide)
             have hR9:Rs g w w9:=(RW.out.bel (HWi.out _)).grown hg9.out (fun k hk=>(PLi.out.1.lt k hk).1) hlt
             have hpp:pos'≤3∧pos'≤L.length+1∧(pos'=0→L.length+1≤5):=by
              rcases HPO.out with ⟨h1,h2⟩ | ⟨h1,h2⟩
              ·refine ⟨by omega,by omega,fun h0=>?_⟩
               have h5:=hp0 (by omega)
               by_cases hL5:L.length=5
               ·have:=hneg5 hL5 (by omega)
                rw [h2] at this
                cases this
               ·omega
              ·have:=hneg' h2
               exact ⟨by omega,by omega,fun h0=>by omega⟩
             refine ⟨pos',L ++ [(⟨neg',cls,ts⟩,.slice ta ts.length tc)],a9,c9,ka',kn',kc',K',rfl,rfl,?_,hpp.1,by simp;omega,by simp;omega,by simp;omega,?_,?_,?_,?_,by simp;omega,?_,hR9.setOwn (by omega) hlt⟩
             ·simp
              omega
             ·have:=zaf (i:=2) Q9.out (.slice a9 (L.length+1) c9)
              simpa [RB] using this
             ·exact (Below.heap_setCell _ _ _ _ (by simp;omega)).trans hRB9
             ·exact hPO9.set Q9.out (by decide) (by decide)
             ·obtain ⟨q1,q2,q3,q4,q5⟩:=hS9
              exact ⟨q1,q2,q3,q4,zbB q5 Q9.out (by decide)⟩
             ·exact HPK.out.snoc HTG.out HPO.out hK'
            case measure=>(simp [intOf];omega)
          ·have hj1:(0:Int)<(j:Int):=by omega
           go_wp2_with fail
           refine (zfZ Hh g ha hn hc wr Ri.out.2 (SOi.out.on hgr)).mono ?_
           rintro e w5 ⟨t,ht,rfl,hr5⟩
           have SO5:=hidR (SOi.out.rs hr5 hgr)
           have PB5:=hidR (show PB w5 pb neg' cls (.slice ta ts.length tc) from zaC hr5 PBi.out (by omega))
           have TO5:=hidR (zig TOi.out hr5 hgr)
           have R5:=hidR (Ri.out.trans hr5)
           have hs5:=hr5.1.rest.size
           rw [show tmV t=.agg #[.int .i64 t.kind,.int .i64 t.op,.string t.var,.int .i64 t.val.kind,.int .i64 t.val.num,.string t.val.sym] from rfl]
           clear hr5 SOi PBi TOi Ri
           go_upto_if 81 with fail
           refine zaj ?_
           intro w6 hW6 htb
           have SO6:=hidR (show SO Hh w6 wR.heap.size ha hn hc from by obtain ⟨q1,q2,q3,q4,q5⟩:=SO5.out;exact ⟨q1,q2,q3,q4,zag q5 hW6⟩)
           have PB6:=hidR (show PB w6 pb neg' cls (.slice ta ts.length tc) from (hW6.block pb (zab PB5.out)).trans PB5.out)
           have TO6:=hidR (zag TO5.out hW6)
           have R6:=hidR (R5.out.bel hW6)
           have TB6:=hidR htb
           have hs6:=hW6.size
           clear hW6 htb SO5 PB5 TO5 R5
           go_cut [12] (fun hv wx=>∃ (ha':Option Addr) (hn' hc':Nat) (H':List ByteArray),hv=.slice ha' hn' hc'∧SO H' wx wR.heap.size ha' hn' hc'∧hn'≤kn+ts.length+1∧H'=(if t.kind==2 then Hh ++ [t.var] else Hh)∧PB wx pb neg' cls (.slice ta ts.length tc)∧wx.ownsRow wR.heap.size 115 6 (.slice ta ts.length tc) ts.length (ts.flatMap za2)∧wx.heap[w5.heap.size]?=some (.cells #[.int .i64 t.kind,.int .i64 t.op,.string t.var,.int .i64 t.val.kind,.int .i64 t.val.num,.string t.val.sym] 115 (0,0))∧Rs g wR wx)
           case first=>
            obtain ⟨t0,t1,t2,t3,t4,t5⟩:=cells6 TB6.out
            cases hk2:(t.kind==2)
            ·go_wp2_with fail
             go_meet
             exact ⟨ha,hn,hc,Hh,rfl,SO6.out,by omega,by simp [hk2],PB6.out,TO6.out,TB6.out,R6.out⟩
            ·obtain ⟨q1,hs,q2,q3,q4⟩:=SO6.out
             have HQ4:=hidR q4
             have HQ2:=hidR q2
             have HQ3:=hidR q3
             have hn1000:hn≤1000:=q1
             have HW6:=hidR (fun o=>(Below.refl _ _).alloc (Nat.le_refl _) o:∀ o,Below w6.heap.size w6 (w6.alloc o))
             have htb6:w5.heap.size<w6.heap.size:=zab TB6.out
             clear q1 q2 q3 q4
             go_wp2_with (first | (at_builtin;refine zad (by rfl) (.tmp 82) (.tmp 85) 202 (by rfl) wR.heap.size 9 _ 1 16 Tryz.underlying202 zjz (by rfl) (by omega) _ hn _ (by rfl) (zag HQ4.out (HW6.out _)) (some ⟨_,0,none⟩) 1 1 (by rfl) ([.string t.var]) (by rfl) (fun e=>by cases e) (zav _ _ _ _ (by simp)) (by intro u hu;simp at hu;subst hu;rfl) (by unfold maxLen;omega) (by omega) (by simp;omega) ?_;intro a7 c7 w7 ho7 hg7 hl7) | fail)
             go_meet
             have ty:=fun k hk=>zai (zag HQ4.out (HW6.out (.cells #[.string t.var] 9))) (k:=k) hk
             exact ⟨a7,hn+1,c7,hs ++ [t.var],rfl,⟨by omega,hs ++ [t.var],⟨rfl,by simp [HQ2.out.2]⟩,by intro x hx;rcases List.mem_append.1 hx with hx | hx;exact HQ3.out x hx;simp at hx;exact hx ▸ zoc ht hk2,by simpa using ho7.out⟩,by omega,by rw [HQ2.out.1];simp [hk2],zaI (((HW6.out _).block _ (zab PB6.out)).trans PB6.out) hg7.out ty (by decide),zbh (zag TO6.out (HW6.out _)) hg7.out ty (by decide),zaI (((HW6.out _).block _ htb6).trans TB6.out) hg7.out ty (by decide),(R6.out.bel (HW6.out _)).grown hg7.out (fun k hk=>(HQ4.out.lt k hk).1) hgr⟩
           case rest=>
            obtain ⟨ha',hn',hc',H',rfl,hSO',hhn',hH',hPB',hTO',hTB',hR'⟩:=hcut
            obtain ⟨w8,rfl⟩:∃ v,v=wc:=⟨wc,rfl⟩
            have SO8:=hidR hSO'
            have PB8:=hidR hPB'
            have TO8:=hidR hTO'
            have R8:=hidR hR'
            have htb8:w5.heap.size<w8.heap.size:=zab hTB'
            have hpb8:pb<w8.heap.size:=zab hPB'
            have hs8:=hR'.1.rest.size
            obtain ⟨t0,t1,t2,t3,t4,t5⟩:=cells6 hTB'
            obtain ⟨⟨p0,p1,p2⟩,z,_⟩:=hPB'.facts
            have HW8:=hidR (fun o=>(Below.refl _ _).alloc (Nat.le_refl _) o:∀ o,Below w8.heap.size w8 (w8.alloc o))
            have TY:=hidR (fun o k hk=>zai (zag TO8.out (HW8.out o)) (k:=k) hk)
            clear hSO' hPB' hTO' hTB' hR' z SO6 PB6 TO6 R6 TB6
            go_wp2_with (first | (at_builtin;refine zad (by rfl) (.tmp 88) (.tmp 90) 36 (by rfl) wR.heap.size 115 _ 6 64 Tryz.underlying36 zn8 (by rfl) (by omega) _ ts.length _ (by rfl) (zag TO8.out (HW8.out _)) (some ⟨_,0,none⟩) 1 1 (by rfl) (za2 t) (by rfl) (fun e=>by cases e) (zav _ _ _ _ (by simp)) (zbN t) (by unfold maxLen;omega) (by omega) (by simp;omega) ?_;intro a9 c9 w9 ho9 hg9 hl9;have PB9:=hidR (show PB w9 pb neg' cls (.slice ta ts.length tc) from zaI (((HW8.out _).block _ hpb8).trans PB8.out) hg9.out (TY.out _) (by decide));obtain ⟨⟨k0,k1,k2⟩,z,hk9⟩:=PB9.out.facts;have z2:=z 2;clear z) | fail)
            go_roundw
            case rel=>
             have hS9:SO H' w9 wR.heap.size ha' hn' hc':=by
              obtain ⟨q1,q2,q3,q4,q5⟩:=SO8.out
              exact ⟨q1,q2,q3,q4,zbh (zag q5 (HW8.out _)) hg9.out (TY.out _) (by decide)⟩
             refine ⟨j - 1,ha',hn',hc',a9,c9,ts ++ [t],H',?_,rfl,by simp;have:=HJ.out;omega,?_,by simp;omega,by rw [hH'];exact zew HTG.out ht.2,?_,?_,?_,?_⟩
             ·rw [show ((j - 1:Nat):Int)=(j:Int) - 1 by omega]
             ·obtain ⟨q1,q2,q3,q4,q5⟩:=hS9
              exact ⟨q1,q2,q3,q4,zbB q5 PB9.out (by decide)⟩
             ·have:=zaf (i:=2) PB9.out (.slice a9 (ts.length+1) c9)
              simpa [PB] using this
             ·have:=zbB (o:=2) (x:=.slice a9 (ts.length+1) c9) ho9.out PB9.out (by decide)
              simpa using this
             ·intro x hx
              rcases List.mem_append.1 hx with hx | hx
              ·exact HTS.out x hx
              ·simp at hx
               exact hx ▸ ht.1
             ·exact ((R8.out.bel (HW8.out _)).grown hg9.out (fun k hk=>(TO8.out.lt k hk).1) hgr).setOwn hpb hgr
            case measure=>(simp [intOf];omega)
   ·have hx1:¬ (0:Int)<(n0:Int) - (L.length:Int):=by omega
    have hx2:((pos:Int)==0)=false:=by simp;omega
    have hpos1:1≤pos:=by omega
    have hL1:1≤L.length:=by omega
    obtain ⟨wz,rfl⟩:∃ v,v=wr:=⟨wr,rfl⟩
    go_wp2_with fail
    refine (zbb g wz R.out.2).mono ?_
    rintro e wL ⟨n3,hn3,rfl,hrL⟩
    have QL:=hidR (show RB wL bq nm sal (.slice pa L.length pc) nilS nilS from zaC hrL Q.out (by omega))
    have RBL:=hidR (show RB wL w.heap.size ⟨#[]⟩ 0 nilS nilS nilS from zaC hrL RBr.out (by omega))
    have PLL:=hidR (PL.out.rs hrL hlt)
    have SQL:=hidR ((KO.out.rs hrL hlt).q (g:=g) (B:=wL.heap.size) hlt (show wL.heap[bq]?=some (.cells _ 35 _) from QL.out) (by decide) (Nat.le_refl _))
    have RL:=hidR (R.out.trans hrL)
    have hsL:=hrL.1.rest.size
    have hgL:g<wL.heap.size:=by omega
    have hgbq:g<bq:=by omega
    have hbqL:bq<wL.heap.size:=zab QL.out
    have HWK:=hidR (show ∀ s∈K,gSym s.data.toList=true from fun s hs=>by obtain ⟨_,ks,⟨rfl,_⟩,q,_⟩:=KO.out;exact (q s hs).2)
    clear hrL Q RBr PL KO R
    obtain ⟨n5,hn5⟩:∃ n5,n5=1+n3 % 3:=⟨_,rfl⟩
    have hn5e:1+(n3:Int) % 3=(n5:Int):=by omega
    have hn53:n5≤3:=by omega
    clear hn5
    go_wp2_with fail
    clear hn5e
    go_loopw [15] (fun nv wr=>∃ (j:Nat) (Ys:List AcV),nv=.int .i64 (j:Int)∧Ys.length+j=n5∧AQ K pos wr bq wL.heap.size (.string nm) (.int .i64 sal) (.slice pa L.length pc) Ys∧Qs g bq none wL wr) (fun nv _=>(intOf nv).toNat)
    case atStart=>exact ⟨n5,[],rfl,by simp,⟨none,0,none,0,[],0,⟨QL.out,World.ownsRow_nil _ _ _ _,fun x hx=>by simp at hx⟩,⟨by simp,by simp,by simp,rfl⟩,AcO.nil _ _⟩,⟨Below.refl _ _,fun _ _ _ _ _=>rfl,RL.out.2⟩⟩
    case round=>
     obtain ⟨j,Ys,rfl,hj,⟨aa,ac,a1,c1,xs1,m,hQB,⟨hm7,hm5,hm3,hAT⟩,hAO⟩,hQS⟩:=hrel
     have HAT:=hidR hAT
     clear hAT
     have HJ:=hidR hj
     have hj3:j≤3:=by omega
     have han:Ys.length≤3:=by omega
     have QBr:=hidR hQB
     have AOr:=hidR hAO
     have QSr:=hidR hQS
     have hsr3:=hQS.rest.size
     clear hj hQB hAO hQS
     by_cases hj0:j=0
     ·clear HJ
      subst hj0
      have RBz:=hidR (show RB wr w.heap.size ⟨#[]⟩ 0 nilS nilS nilS from (QSr.out.block _ (zab RBL.out) (by omega) (by omega) (by simp)).trans RBL.out)
      have POz:=hidR (PLL.out.qs QSr.out hlt QL.out rfl)
      have Rz:=hidR (Rs.qs QSr.out w RL.out (by omega) (fun k hk=>by cases hk))
      obtain ⟨⟨q0,q1,q2,q3,q4⟩,z,hqz⟩:=(show RB wr bq nm sal (.slice pa L.length pc) (.slice a1 xs1.length c1) (.slice aa Ys.length ac) from QBr.out.1).facts
      clear z
      go_wp2_with (first | (refine zal (by rfl) 35 (.tmp 4) (.tmp 162) (by rfl) w.heap.size [.string nm,.int .i64 sal,.slice pa L.length pc,.slice a1 xs1.length c1,.slice aa Ys.length ac] (by rfl) (by rfl) _ 35 RBz.out (by rfl) zn4 (by intro u hu;simp at hu;rcases hu with rfl | rfl | rfl | rfl | rfl <;> rfl) ?_;intro wy hky hty) | fail)
      obtain ⟨⟨f0,f1,f2,f3,f4⟩,z,hzy⟩:=(show RB wy w.heap.size nm sal (.slice pa L.length pc) (.slice a1 xs1.length c1) (.slice aa Ys.length ac) from hky.out).facts
      refine bodyPost_ret (v:=ruV nm sal (.slice pa L.length pc) (.slice a1 xs1.length c1) (.slice aa Ys.length ac)) (by simp [results,Tryz.results84,go_sem,f0,f1,f2,f3,f4,ruV]) rfl ⟨⟨nm,sal,.slice pa L.length pc,.slice a1 xs1.length c1,.slice aa Ys.length ac,L,xs1,Ys⟩,rfl,⟨HNK.out,K,pos,⟨?_,by simpa [RuX.ru] using hL6,?_,HPK.out.1,?_,HPK.out.2,⟨hpos1,hp3⟩,by simp [RuX.ru];omega,by simp only [RuX.ru];omega,HAT.out⟩⟩,hsal,?_,Rz.out.turned hty.out (Nat.le_refl _) hlt⟩
      ·show gSym nm.data.toList=true
       rw [HNK.out]
       exact zmM k hk
      ·intro p hp
       obtain ⟨x,hx,rfl⟩:=List.mem_map.1 hp
       have hX:=POz.out.2 x hx
       simp only [gPt,Bool.and_eq_true,decide_eq_true_eq,List.all_eq_true]
       exact ⟨hX.2.2.1.2,by have:=hX.2.2.2.1;omega,fun t ht=>(hX.2.2.2.2 t ht).2.2⟩
      ·exact HWK.out
      ·have sm:Same rTys w.heap.size wr wy:=Same.kept (fun k hk _=>hty.out.block k hk) RBz.out (by decide)
       have ao:AcO wr w.heap.size aa ac Ys:=⟨zan AOr.out.1 (by omega),fun y hy=>⟨(AOr.out.2 y hy).1,zan (AOr.out.2 y hy).2 (by omega)⟩⟩
       exact RuP.same ⟨⟨pa,pc,rfl,POz.out⟩,⟨a1,c1,rfl,zan QBr.out.2.1 (by omega),QBr.out.2.2⟩,aa,ac,rfl,ao⟩ sm
     ·have hj1:(0:Int)<(j:Int):=by omega
      go_wp2_with fail
      refine (zbb g wr QSr.out.rdr).mono ?_
      rintro e w4 ⟨n4,hn4,rfl,hr4⟩
      have QB4:=hidR (QBr.out.rs hr4 (by omega) hgL)
      have AO4:=hidR (AOr.out.rs hr4 hgL)
      have QS4:=hidR (QSr.out.trans (Qs.of (o:=none) hr4) (zcD.refl _ _))
      have hs4'':=hr4.1.rest.size
      clear hr4 QBr AOr QSr
      go_upto_region 32 with fail
      refine zaj ?_
      intro w5 hW5 hab5
      obtain ⟨ab,hab⟩:∃ ab,ab=w4.heap.size:=⟨_,rfl⟩
      rw [← hab] at hab5 ⊢
      have AB5:=hidR (show AB w5 ab _ _ _ _ from hab5)
      have QB5:=hidR (QB4.out.bel hW5)
      have AO5:=hidR (AO4.out.bel hW5)
      have QS5:=hidR (QS4.out.bel hW5)
      have SQ5:=hidR (SQL.out.qs QS5.out (fun k hk=>by cases hk))
      have AN:=hidR (fun k (hk:(Value.slice aa Ys.length ac).ownBlock=some k)=>(show k≠ab by have:=(AO4.out.1.lt k hk).2;omega))
      have EN:=hidR (fun (e:(Value.slice a1 xs1.length c1).ownBlock=some ab)=>by have:=(QB4.out.2.1.lt ab e).2;omega:(Value.slice a1 xs1.length c1).ownBlock≠some ab)
      have habL:wL.heap.size≤ab:=by omega
      have habq:ab≠bq:=by omega
      have hs5:=hW5.size
      have hab5l:ab<w5.heap.size:=zab AB5.out
      obtain ⟨⟨b0,b1,b2,b3⟩,z,_⟩:=AB5.out.facts
      have z0:=z 0
      have z1:=z 1
      have z2:=z 2
      have z3:=z 3
      have hposn:¬ (pos:Int)=0:=by omega
      have HKK:=hidR (show 1≤wrap64 (1+(n4:Int) / 8 % (pos:Int))∧wrap64 (1+(n4:Int) / 8 % (pos:Int))≤(pos:Int) from by have h1:=Int.emod_nonneg ((n4:Int) / 8) hposn;have h2:=Int.emod_lt_of_pos ((n4:Int) / 8) (show (0:Int)<(pos:Int) by omega);unfold wrap64;omega)
      clear hW5 hab5 hab QB4 AO4 QS4 z
      have h8:(n4 % 8=0∨n4 % 8=1∨n4 % 8=2)∨(n4 % 8=3∨n4 % 8=4)∨(n4 % 8=5∨n4 % 8=6)∨n4 % 8=7:=by omega
      have HD8:=hidR hn4
      rcases h8 with h8 | h8 | h8 | h8
      ·clear HD8
       rcases h8 with h8 | h8 | h8
       all_goals
        have hI:=mod8 h8
        clear h8
        have HCV:=hidR (show ((n4:Int) / 8)=((n4 / 8:Nat):Int) by omega)
        go_upto_region 38 with fail
        refine zjN AB5.out ?_
        intro w6 hAB6 hT6
        have QB6:=hidR (QB5.out.turned hT6 habq EN.out)
        have AO6:=hidR (AO5.out.turned hT6 AN.out AB5.out)
        have QS6:=hidR (QS5.out.turned hT6 habL hgL)
        have AB6:=hidR hAB6
        clear hT6 hAB6 b0 b1 b2 b3 z0 z1 z2 z3 AB5 QB5 AO5 QS5 SQ5
        go_wp2_with fail
        rw [HCV.out]
        refine (zfv (n4 / 8) w6).mono ?_
        rintro e w6b ⟨cl,hcl,rfl,hb6⟩
        have QB6b:=hidR (QB6.out.bel hb6)
        have AO6b:=hidR (AO6.out.bel hb6)
        have QS6b:=hidR (QS6.out.bel hb6)
        have AB6b:=hidR (show AB w6b ab _ _ _ _ from (hb6.block ab (zab AB6.out)).trans AB6.out)
        obtain ⟨⟨b0,b1,b2,b3⟩,z,hab6⟩:=AB6b.out.facts
        have z2:=z 2
        clear z hb6 QB6 AO6 QS6 AB6 HCV
        go_upto_region 39 with fail
        refine zmU AB6b.out ?_
        intro wx hABt hTt
        have QBx:=hidR (QB6b.out.turned hTt habq EN.out)
        have AOx:=hidR (AO6b.out.turned hTt AN.out AB6b.out)
        have QSx:=hidR (QS6b.out.turned hTt habL hgL)
        have ABx:=hidR hABt
        have SQx:=hidR (SQL.out.qs QSx.out (fun k hk=>by cases hk))
        clear hTt hABt b0 b1 b2 b3 z2 AB6b QB6b AO6b QS6b
        go_wp2_with fail
        refine (zdD K m g bq wL.heap.size (.string nm) (.int .i64 sal) (.slice pa L.length pc) (.slice aa Ys.length ac) ka kn kc hgbq hbqL a1 c1 xs1 wx QSx.out.rdr QBx.out SQx.out QSx.out.rest.size hm7 hm5 (by omega)).mono ?_
        rintro e w7 ⟨ao,co,zs,a7,c7,xs7,ys7,rfl,hzs7,hQB7,⟨hxe7,hTr7,hz3,hx77,hx75⟩,hQ7,hn7⟩
        have AB7:=hidR (show AB w7 ab (.int .i64 1) (.int .i64 0) (.string cl) (.slice none 0 0) from (hQ7.block ab (zab ABx.out) (by omega) habq EN.out).trans ABx.out)
        have QB7:=hidR hQB7
        have ZS7:=hidR (zan hzs7 (base':=wL.heap.size) (by have:=QSx.out.rest.size;omega))
        clear hzs7
        have AO7:=hidR (AOx.out.qs hQ7 hgL hbqL (fun k hk=>zai QBx.out.2.1 hk))
        have QS7:=hidR (QSx.out.trans hQ7 (.inr fun k hk=>(QBx.out.2.1.lt k hk).1))
        have EN7:(Value.slice a7 xs7.length c7).ownBlock≠some ab:=fun e=>by
         obtain ⟨cc,hcc⟩:=zai hQB7.2.1 e
         exact zaA hcc AB7.out (by decide)
        have hs7:=QS7.out.rest.size
        obtain ⟨⟨g0,g1,g2,g3⟩,z,hab7⟩:=AB7.out.facts
        have y3f:=z 3
        clear z hQB7 hQ7 hn7 ABx QBx AOx QSx SQx
        go_upto_region 49 with fail
        refine zjv AB7.out ?_
        intro wt hABt hTt
        have ZSt:=hidR (zb2 ZS7.out (T:=[3]) (Same.kept (fun k hk _=>hTt.block k hk) AB7.out (by decide)) (by decide))
        have QBt:=hidR (QB7.out.turned hTt habq EN7)
        have AOt:=hidR (AO7.out.turned hTt AN.out AB7.out)
        have QSt:=hidR (QS7.out.turned hTt habL hgL)
        have ABt:=hidR hABt
        clear hTt hABt g0 g1 g2 g3 y3f AB7 QB7 AO7 QS7 ZS7
        obtain ⟨⟨b0,b1,b2,b3⟩,z,hab⟩:=ABt.out.facts
        clear z
        have hbqt:bq<wt.heap.size:=zab QBt.out.1
        have cq4:wt.cell? ⟨bq,4,none⟩=some (.slice aa Ys.length ac):=by simp [World.cell?,QBt.out.1]
        have HWt:=hidR (fun o=>(Below.refl _ _).alloc (Nat.le_refl _) o:∀ o,Below wt.heap.size wt (wt.alloc o))
        have TYt:=hidR (fun o k hk=>zai (AOt.out.bel (HWt.out o)).1 (k:=k) hk)
        have hsT:=QSt.out.rest.size
        go_wp2_with (first | (at_builtin;refine zad (by rfl) (.tmp 157) (.tmp 159) 33 (by rfl) wL.heap.size 200 _ 4 56 Tryz.underlying33 zhs (by rfl) (by omega) _ Ys.length _ (by rfl) ((AOt.out.bel (HWt.out _)).1) (some ⟨_,0,none⟩) 1 1 (by rfl) ([(.int .i64 1),(.int .i64 0),(.string cl),(.slice ao zs.length co)]) (by rfl) (fun e=>by cases e) (zav _ _ _ _ (by simp)) (by intro u hu;simp at hu;rcases hu with rfl | rfl | rfl | rfl;exact rfl;exact rfl;exact rfl;exact rfl) (by unfold maxLen;omega) (by omega) (by simp;omega) ?_;intro a9 c9 w9 ho9 hg9 hl9;have QB9:=hidR (QB.grown (t:=200) (QBt.out.bel (HWt.out _)) hg9.out (TYt.out _) (by decide) (by decide));have cq9:w9.cell? ⟨bq,4,none⟩=some (.slice aa Ys.length ac):=(by simp [World.cell?,QB9.out.1]);have zq9:w9.frozen? ⟨bq,4,none⟩=false:=(by simp [World.frozen?,QB9.out.1])) | fail)
        go_roundw
        case rel=>
         have hAO9:=AcO.snoc (x:=((⟨1,0,cl,zs⟩:Ac),(.slice ao zs.length co))) (AOt.out.bel (HWt.out _)) (show AcP _ _ ((⟨1,0,cl,zs⟩:Ac),(.slice ao zs.length co)) from ⟨⟨_,_,rfl⟩,zag ZSt.out (HWt.out _)⟩) ho9.out hg9.out
         refine ⟨j - 1,Ys ++ [((⟨1,0,cl,zs⟩:Ac),(.slice ao zs.length co))],?_,by simp;have:=HJ.out;omega,⟨a9,c9,a7,c7,_,_,⟨?_,zbB QB9.out.2.1 QB9.out.1 (by decide),QB9.out.2.2⟩,(by have:=zeW (v:=(.slice ao zs.length co)) HAT.out (zpn hcl hz3) hTr7 (hxe7 ▸ hx77) (hxe7 ▸ hx75) (by omega) hm3;rw [← hxe7] at this;exact this),hAO9.same (T:=[200,3]) (Same.kept (fun k hk _=>Below.heap_setCell _ _ _ _ hk) QB9.out.1 (by decide)) (by decide) (by decide)⟩,((QSt.out.bel (HWt.out _)).grown hg9.out (fun k hk=>(AOt.out.1.lt k hk).1) hgL).setQ hgbq⟩
         ·rw [show ((j - 1:Nat):Int)=(j:Int) - 1 by omega]
         ·have:=zaf (i:=4) QB9.out.1 (.slice a9 (Ys.length+1) c9)
          simpa using this
        case measure=>(simp [intOf];omega)
      ·clear HD8
       rcases h8 with h8 | h8
       all_goals
        have hI:=mod8 h8
        clear h8
        go_upto_region 49 with fail
        refine ziu AB5.out HKK.out ?_
        intro wt z hz hABt hTt
        have QBt:=hidR (QB5.out.turned hTt habq EN.out)
        have AOt:=hidR (AO5.out.turned hTt AN.out AB5.out)
        have QSt:=hidR (QS5.out.turned hTt habL hgL)
        have ABt:=hidR hABt
        clear hTt hABt b0 b1 b2 b3 z0 z1 z2 z3 AB5 QB5 AO5 QS5
        obtain ⟨⟨b0,b1,b2,b3⟩,z,hab⟩:=ABt.out.facts
        clear z
        have hbqt:bq<wt.heap.size:=zab QBt.out.1
        have cq4:wt.cell? ⟨bq,4,none⟩=some (.slice aa Ys.length ac):=by simp [World.cell?,QBt.out.1]
        have HWt:=hidR (fun o=>(Below.refl _ _).alloc (Nat.le_refl _) o:∀ o,Below wt.heap.size wt (wt.alloc o))
        have TYt:=hidR (fun o k hk=>zai (AOt.out.bel (HWt.out o)).1 (k:=k) hk)
        have hsT:=QSt.out.rest.size
        go_wp2_with (first | (at_builtin;refine zad (by rfl) (.tmp 157) (.tmp 159) 33 (by rfl) wL.heap.size 200 _ 4 56 Tryz.underlying33 zhs (by rfl) (by omega) _ Ys.length _ (by rfl) ((AOt.out.bel (HWt.out _)).1) (some ⟨_,0,none⟩) 1 1 (by rfl) ([(.int .i64 2),(.int .i64 z),(.string ⟨#[]⟩),(.slice none 0 0)]) (by rfl) (fun e=>by cases e) (zav _ _ _ _ (by simp)) (by intro u hu;simp at hu;rcases hu with rfl | rfl | rfl | rfl;exact rfl;exact rfl;exact rfl;exact rfl) (by unfold maxLen;omega) (by omega) (by simp;omega) ?_;intro a9 c9 w9 ho9 hg9 hl9;have QB9:=hidR (QB.grown (t:=200) (QBt.out.bel (HWt.out _)) hg9.out (TYt.out _) (by decide) (by decide));have cq9:w9.cell? ⟨bq,4,none⟩=some (.slice aa Ys.length ac):=(by simp [World.cell?,QB9.out.1]);have zq9:w9.frozen? ⟨bq,4,none⟩=false:=(by simp [World.frozen?,QB9.out.1])) | fail)
        go_roundw
        case rel=>
         have hAO9:=AcO.snoc (x:=((⟨2,z,⟨#[]⟩,[]⟩:Ac),(.slice none 0 0))) (AOt.out.bel (HWt.out _)) (show AcP _ _ ((⟨2,z,⟨#[]⟩,[]⟩:Ac),(.slice none 0 0)) from ⟨⟨_,_,rfl⟩,zag (World.ownsRow_nil _ _ _ _) (HWt.out _)⟩) ho9.out hg9.out
         refine ⟨j - 1,Ys ++ [((⟨2,z,⟨#[]⟩,[]⟩:Ac),(.slice none 0 0))],?_,by simp;have:=HJ.out;omega,⟨a9,c9,a1,c1,_,_,⟨?_,zbB QB9.out.2.1 QB9.out.1 (by decide),QB9.out.2.2⟩,(by have:=zeW (v:=(.slice none 0 0)) (m':=m) HAT.out (zoH hz hp3) (ys:=[]) rfl (by simpa using hm7) (by simpa using hm5) (by omega) hm3;simpa using this),hAO9.same (T:=[200,3]) (Same.kept (fun k hk _=>Below.heap_setCell _ _ _ _ hk) QB9.out.1 (by decide)) (by decide) (by decide)⟩,((QSt.out.bel (HWt.out _)).grown hg9.out (fun k hk=>(AOt.out.1.lt k hk).1) hgL).setQ hgbq⟩
         ·rw [show ((j - 1:Nat):Int)=(j:Int) - 1 by omega]
         ·have:=zaf (i:=4) QB9.out.1 (.slice a9 (Ys.length+1) c9)
          simpa using this
        case measure=>(simp [intOf];omega)
      ·clear HD8
       rcases h8 with h8 | h8
       all_goals
        have hI:=mod8 h8
        clear h8
        go_upto_region 48 with fail
        refine ziu AB5.out HKK.out ?_
        intro wx z hz hABt hTt
        have QBx:=hidR (QB5.out.turned hTt habq EN.out)
        have AOx:=hidR (AO5.out.turned hTt AN.out AB5.out)
        have QSx:=hidR (QS5.out.turned hTt habL hgL)
        have ABx:=hidR hABt
        have SQx:=hidR (SQL.out.qs QSx.out (fun k hk=>by cases hk))
        clear hTt hABt b0 b1 b2 b3 z0 z1 z2 z3 AB5 QB5 AO5 QS5 SQ5
        go_wp2_with fail
        refine (zdD K m g bq wL.heap.size (.string nm) (.int .i64 sal) (.slice pa L.length pc) (.slice aa Ys.length ac) ka kn kc hgbq hbqL a1 c1 xs1 wx QSx.out.rdr QBx.out SQx.out QSx.out.rest.size hm7 hm5 (by omega)).mono ?_
        rintro e w7 ⟨ao,co,zs,a7,c7,xs7,ys7,rfl,hzs7,hQB7,⟨hxe7,hTr7,hz3,hx77,hx75⟩,hQ7,hn7⟩
        have AB7:=hidR (show AB w7 ab (.int .i64 3) (.int .i64 z) (.string ⟨#[]⟩) (.slice none 0 0) from (hQ7.block ab (zab ABx.out) (by omega) habq EN.out).trans ABx.out)
        have QB7:=hidR hQB7
        have ZS7:=hidR (zan hzs7 (base':=wL.heap.size) (by have:=QSx.out.rest.size;omega))
        clear hzs7
        have AO7:=hidR (AOx.out.qs hQ7 hgL hbqL (fun k hk=>zai QBx.out.2.1 hk))
        have QS7:=hidR (QSx.out.trans hQ7 (.inr fun k hk=>(QBx.out.2.1.lt k hk).1))
        have EN7:(Value.slice a7 xs7.length c7).ownBlock≠some ab:=fun e=>by
         obtain ⟨cc,hcc⟩:=zai hQB7.2.1 e
         exact zaA hcc AB7.out (by decide)
        have hs7:=QS7.out.rest.size
        obtain ⟨⟨g0,g1,g2,g3⟩,z,hab7⟩:=AB7.out.facts
        have y3f:=z 3
        clear z hQB7 hQ7 hn7 ABx QBx AOx QSx SQx
        go_upto_region 49 with fail
        refine zjv AB7.out ?_
        intro wt hABt hTt
        have ZSt:=hidR (zb2 ZS7.out (T:=[3]) (Same.kept (fun k hk _=>hTt.block k hk) AB7.out (by decide)) (by decide))
        have QBt:=hidR (QB7.out.turned hTt habq EN7)
        have AOt:=hidR (AO7.out.turned hTt AN.out AB7.out)
        have QSt:=hidR (QS7.out.turned hTt habL hgL)
        have ABt:=hidR hABt
        clear hTt hABt g0 g1 g2 g3 y3f AB7 QB7 AO7 QS7 ZS7
        obtain ⟨⟨b0,b1,b2,b3⟩,z,hab⟩:=ABt.out.facts
        clear z
        have hbqt:bq<wt.heap.size:=zab QBt.out.1
        have cq4:wt.cell? ⟨bq,4,none⟩=some (.slice aa Ys.length ac):=by simp [World.cell?,QBt.out.1]
        have HWt:=hidR (fun o=>(Below.refl _ _).alloc (Nat.le_refl _) o:∀ o,Below wt.heap.size wt (wt.alloc o))
        have TYt:=hidR (fun o k hk=>zai (AOt.out.bel (HWt.out o)).1 (k:=k) hk)
        have hsT:=QSt.out.rest.size
        go_wp2_with (first | (at_builtin;refine zad (by rfl) (.tmp 157) (.tmp 159) 33 (by rfl) wL.heap.size 200 _ 4 56 Tryz.underlying33 zhs (by rfl) (by omega) _ Ys.length _ (by rfl) ((AOt.out.bel (HWt.out _)).1) (some ⟨_,0,none⟩) 1 1 (by rfl) ([(.int .i64 3),(.int .i64 z),(.string ⟨#[]⟩),(.slice ao zs.length co)]) (by rfl) (fun e=>by cases e) (zav _ _ _ _ (by simp)) (by intro u hu;simp at hu;rcases hu with rfl | rfl | rfl | rfl;exact rfl;exact rfl;exact rfl;exact rfl) (by unfold maxLen;omega) (by omega) (by simp;omega) ?_;intro a9 c9 w9 ho9 hg9 hl9;have QB9:=hidR (QB.grown (t:=200) (QBt.out.bel (HWt.out _)) hg9.out (TYt.out _) (by decide) (by decide));have cq9:w9.cell? ⟨bq,4,none⟩=some (.slice aa Ys.length ac):=(by simp [World.cell?,QB9.out.1]);have zq9:w9.frozen? ⟨bq,4,none⟩=false:=(by simp [World.frozen?,QB9.out.1])) | fail)
        go_roundw
        case rel=>
         have hAO9:=AcO.snoc (x:=((⟨3,z,⟨#[]⟩,zs⟩:Ac),(.slice ao zs.length co))) (AOt.out.bel (HWt.out _)) (show AcP _ _ ((⟨3,z,⟨#[]⟩,zs⟩:Ac),(.slice ao zs.length co)) from ⟨⟨_,_,rfl⟩,zag ZSt.out (HWt.out _)⟩) ho9.out hg9.out
         refine ⟨j - 1,Ys ++ [((⟨3,z,⟨#[]⟩,zs⟩:Ac),(.slice ao zs.length co))],?_,by simp;have:=HJ.out;omega,⟨a9,c9,a7,c7,_,_,⟨?_,zbB QB9.out.2.1 QB9.out.1 (by decide),QB9.out.2.2⟩,(by have:=zeW (v:=(.slice ao zs.length co)) HAT.out (zoV hz hp3 hz3) hTr7 (hxe7 ▸ hx77) (hxe7 ▸ hx75) (by omega) hm3;rw [← hxe7] at this;exact this),hAO9.same (T:=[200,3]) (Same.kept (fun k hk _=>Below.heap_setCell _ _ _ _ hk) QB9.out.1 (by decide)) (by decide) (by decide)⟩,((QSt.out.bel (HWt.out _)).grown hg9.out (fun k hk=>(AOt.out.1.lt k hk).1) hgL).setQ hgbq⟩
         ·rw [show ((j - 1:Nat):Int)=(j:Int) - 1 by omega]
         ·have:=zaf (i:=4) QB9.out.1 (.slice a9 (Ys.length+1) c9)
          simpa using this
        case measure=>(simp [intOf];omega)
      ·clear HD8
       have hI:=mod8 h8
       clear h8
       go_upto_region 49 with fail
       refine zjN AB5.out ?_
       intro wt hABt hTt
       have QBt:=hidR (QB5.out.turned hTt habq EN.out)
       have AOt:=hidR (AO5.out.turned hTt AN.out AB5.out)
       have QSt:=hidR (QS5.out.turned hTt habL hgL)
       have ABt:=hidR hABt
       clear hTt hABt b0 b1 b2 b3 z0 z1 z2 z3 AB5 QB5 AO5 QS5
       obtain ⟨⟨b0,b1,b2,b3⟩,z,hab⟩:=ABt.out.facts
       clear z
       have hbqt:bq<wt.heap.size:=zab QBt.out.1
       have cq4:wt.cell? ⟨bq,4,none⟩=some (.slice aa Ys.length ac):=by simp [World.cell?,QBt.out.1]
       have HWt:=hidR (fun o=>(Below.refl _ _).alloc (Nat.le_refl _) o:∀ o,Below wt.heap.size wt (wt.alloc o))
       have TYt:=hidR (fun o k hk=>zai (AOt.out.bel (HWt.out o)).1 (k:=k) hk)
       have hsT:=QSt.out.rest.size
       go_wp2_with (first | (at_builtin;refine zad (by rfl) (.tmp 157) (.tmp 159) 33 (by rfl) wL.heap.size 200 _ 4 56 Tryz.underlying33 zhs (by rfl) (by omega) _ Ys.length _ (by rfl) ((AOt.out.bel (HWt.out _)).1) (some ⟨_,0,none⟩) 1 1 (by rfl) ([(.int .i64 4),(.int .i64 0),(.string ⟨#[]⟩),(.slice none 0 0)]) (by rfl) (fun e=>by cases e) (zav _ _ _ _ (by simp)) (by intro u hu;simp at hu;rcases hu with rfl | rfl | rfl | rfl;exact rfl;exact rfl;exact rfl;exact rfl) (by unfold maxLen;omega) (by omega) (by simp;omega) ?_;intro a9 c9 w9 ho9 hg9 hl9;have QB9:=hidR (QB.grown (t:=200) (QBt.out.bel (HWt.out _)) hg9.out (TYt.out _) (by decide) (by decide));have cq9:w9.cell? ⟨bq,4,none⟩=some (.slice aa Ys.length ac):=(by simp [World.cell?,QB9.out.1]);have zq9:w9.frozen? ⟨bq,4,none⟩=false:=(by simp [World.frozen?,QB9.out.1])) | fail)
       go_roundw
       case rel=>
        have hAO9:=AcO.snoc (x:=((⟨4,0,⟨#[]⟩,[]⟩:Ac),(.slice none 0 0))) (AOt.out.bel (HWt.out _)) (show AcP _ _ ((⟨4,0,⟨#[]⟩,[]⟩:Ac),(.slice none 0 0)) from ⟨⟨_,_,rfl⟩,zag (World.ownsRow_nil _ _ _ _) (HWt.out _)⟩) ho9.out hg9.out
        refine ⟨j - 1,Ys ++ [((⟨4,0,⟨#[]⟩,[]⟩:Ac),(.slice none 0 0))],?_,by simp;have:=HJ.out;omega,⟨a9,c9,a1,c1,_,_,⟨?_,zbB QB9.out.2.1 QB9.out.1 (by decide),QB9.out.2.2⟩,(by have:=zeW (v:=(.slice none 0 0)) (m':=m) HAT.out (zoC pos) (ys:=[]) rfl (by simpa using hm7) (by simpa using hm5) (by omega) hm3;simpa using this),hAO9.same (T:=[200,3]) (Same.kept (fun k hk _=>Below.heap_setCell _ _ _ _ hk) QB9.out.1 (by decide)) (by decide) (by decide)⟩,((QSt.out.bel (HWt.out _)).grown hg9.out (fun k hk=>(AOt.out.1.lt k hk).1) hgL).setQ hgbq⟩
        ·rw [show ((j - 1:Nat):Int)=(j:Int) - 1 by omega]
        ·have:=zaf (i:=4) QB9.out.1 (.slice a9 (Ys.length+1) c9)
         simpa using this
       case measure=>(simp [intOf];omega)
end Go.Proofs.YtmmdlgjmplddiaaGreat
namespace Go.Proofs.YtmmdlgjmplddiaaGreat
open Go.RowKit
attribute [local go_sem ↓] Go.wp_at_zero Go.wp_at_succ
theorem zn9:(Tryz.prog.info? 35).map (fun i=>(i.zero,i.size,i.bytes))=some (some (.agg #[.string ⟨#[]⟩,.int .i64 0,.slice none 0 0,.slice none 0 0,.slice none 0 0]),5,96):=by kernel_rfl
set_option maxRecDepth 100000 in
set_option maxHeartbeats 3200000 in
theorem zfC (g most:Nat) (w:World) (h:Rdr w g) (hm:1≤most) (hm9:most≤8) :
  Calls Tryz.prog 48 #[.pointer (some ⟨g,0,none⟩),.int .i64 (most:Int)] w fun e w'=>∃ a c M,e=.returned (.slice a (List.length M) c)∧1≤M.length∧M.length≤8∧MOk M∧RO w' w.heap.size a c M∧Rs g w w':=by
 have H:=hidR h
 have hlt:=h.lt
 clear h
 have hmI:¬ (most:Int)=0:=by omega
 go_enter Tryz.func48,Tryz.ntmps48
 go_wp2_with fail
 refine (zbb g w H.out).mono ?_
 rintro e w1 ⟨n1,hn1,rfl,hr1⟩
 have R1:=hidR hr1
 clear hr1 H
 obtain ⟨n0,hn0⟩:∃ n0,n0=1+n1 % most:=⟨_,rfl⟩
 have hn0e:1+(n1:Int) % (most:Int)=(n0:Int):=by rw [hn0];push_cast;rfl
 have hml:=Nat.mod_lt n1 (show 0<most by omega)
 have hn01:1≤n0∧n0≤8:=by omega
 clear hn0 hml
 go_wp2_with fail
 clear hn0e
 go_loopw [5,6] (fun ov nv wr=>∃ (j:Nat) (a:Option Addr) (c:Nat) (M:List RuX),nv=.int .i64 (j:Int)∧ov=.slice a M.length c∧M.length+j=n0∧MOk M∧RO wr w.heap.size a c M∧Rs g w wr) (fun _ nv _=>(intOf nv).toNat)
 case atStart=>exact ⟨n0,none,0,[],rfl,rfl,by simp,fun i x h=>by simp at h,RO.nil _ _,R1.out⟩
 case round=>
  obtain ⟨j,a,c,M,rfl,rfl,hj,hMK,hRO,hR⟩:=hrel
  have HMK:=hidR hMK
  clear hMK
  have HJ:=hidR hj
  have hj8:j≤8:=by omega
  have hM8:M.length≤8:=by omega
  have MO:=hidR hRO
  have R:=hidR hR
  have hsr:=hR.1.rest.size
  clear hj hRO hR R1
  by_cases hj0:j=0
  ·have hM1:1≤M.length:=by have:=HJ.out;omega
   clear HJ
   subst hj0
   go_wp2_with fail
   go_ret
   exact ⟨a,c,M,rfl,hM1,hM8,HMK.out,MO.out,R.out⟩
  ·have hj1:(0:Int)<(j:Int):=by omega
   go_wp2_with fail
   refine (zga g M.length wr R.out.2 (by omega)).mono ?_
   rintro e w2 ⟨x,rfl,hDR,hsal,hRP,hr2⟩
   have HDR:=hidR hDR
   have HSL:=hidR hsal
   obtain ⟨⟨pa,pn,pc,hpv⟩,⟨ea,en,ec,hev⟩,aa,an,ac,hav⟩:=hRP.slices
   obtain ⟨nm,sal,pv,ev,av,pats,es,acts⟩:=x
   dsimp only at hpv hev hav
   subst hpv hev hav
   have MO2:=hidR (MO.out.rs hr2 hlt)
   have R2:=hidR (R.out.trans hr2)
   have PO2:=hidR (hRP.lower hsr)
   have hs2:=hr2.1.rest.size
   have HW:=hidR (fun o=>(Below.refl _ _).alloc (Nat.le_refl _) o:∀ o,Below w2.heap.size w2 (w2.alloc o))
   have TY:=hidR (fun o k hk=>zai (zag MO2.out.1 (HW.out o)) (k:=k) hk)
   clear hRP hr2 MO R hDR hsal
   unfold ruV
   go_wp2_with (first | (at_builtin;refine zad (by rfl) (.tmp 16) (.tmp 21) 23 (by rfl) w.heap.size 35 _ 5 96 Tryz.underlying23 zn9 (by rfl) (by omega) _ M.length _ (by rfl) (zag MO2.out.1 (HW.out _)) (some ⟨_,0,none⟩) 1 1 (by rfl) (rcells ⟨nm,sal,.slice pa pn pc,.slice ea en ec,.slice aa an ac,pats,es,acts⟩) (by rfl) (fun e=>by cases e) (zav _ _ _ _ (by simp)) (by intro u hu;simp [rcells] at hu;rcases hu with rfl | rfl | rfl | rfl | rfl <;> rfl) (by unfold maxLen;omega) (by omega) (by simp;omega) ?_;intro a9 c9 w9 ho9 hg9 hl9) | fail)
   go_roundw
   case rel=>
    refine ⟨j - 1,a9,c9,M ++ [⟨nm,sal,.slice pa pn pc,.slice ea en ec,.slice aa an ac,pats,es,acts⟩],?_,by simp,by simp;have:=HJ.out;omega,HMK.out.snoc HDR.out HSL.out,⟨by simpa using ho9.out,fun x hx=>?_⟩,(R2.out.bel (HW.out _)).grown hg9.out (fun k hk=>(MO2.out.1.lt k hk).1) hlt⟩
    ·rw [show ((j - 1:Nat):Int)=(j:Int) - 1 by omega]
    ·have hx':RuP w2 w.heap.size x:=by
      rcases List.mem_append.1 hx with hx | hx
      ·exact MO2.out.2 x hx
      ·simp at hx
       subst hx
       exact PO2.out
     exact (hx'.same (Same.bel (HW.out _))).same (Same.grown hg9.out (TY.out _) (by decide))
   case measure=>(simp [intOf];omega)
end Go.Proofs.YtmmdlgjmplddiaaGreat
