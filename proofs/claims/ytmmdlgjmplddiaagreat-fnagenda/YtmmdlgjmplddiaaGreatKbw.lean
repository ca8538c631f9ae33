/-
  OUR OWN TEXT. Hf, Tw, LawR, Ti, Put, Sp8, one behind the other.
-/
import Derived.Test.YtmmdlgjmplddiaaGreatKbv
import Derived.Test.YtmmdlgjmplddiaaGreatKam
import Derived.Test.YtmmdlgjmplddiaaGreatKbr
import Derived.Deep.QuietTactic
import Derived.BigQuiet
import Derived.Deep.RegionLaw
namespace Go.Proofs.YtmmdlgjmplddiaaGreat
open Go.RowKit
attribute [local go_sem ↓] Go.wp_at_zero Go.wp_at_succ
end Go.Proofs.YtmmdlgjmplddiaaGreat
namespace Go.Proofs.YtmmdlgjmplddiaaGreat
open Go.RowKit Go.Maps
attribute [local go_sem ↓] Go.wp_at_zero Go.wp_at_succ
def bars (but:Int) (cls:ByteArray) (vs:List V) (f:F):Bool:=decide (f.tag≠but) && (decide (f.cls=cls) && decide (f.slots=vs))
def zgU (but:Int) (cls:ByteArray) (vs:List V):List F→Int
 | []=>0
 | f :: r=>if bars but cls vs f then f.tag else zgU but cls vs r
def zdi (sg:Bool) (but:Int) (cls:ByteArray) (vs:List V) (fs:List F):Int:=if sg then zgU but cls vs fs else 0
set_option maxHeartbeats 1600000 in
theorem zi0 (a:Option Addr) (c:Nat) (fs:List F) (nx cp:Int) (sg:Bool) (but:Int) (cls:ByteArray) (sa:Option Addr) (sc:Nat) (vs:List V) (w:World) (hv:zaH w a fs) (hsv:zaV w sa vs) (hl:fs.length≤1048576) (hs:∀ f∈fs,f.slots.length≤1048576) :
  Calls Tryz.prog 90 #[.agg #[.slice a fs.length c,.int .i64 nx,.int .i64 cp,.bool sg],.int .i64 but,.string cls,.slice sa vs.length sc] w fun e w'=>
   e=.returned (.int .i64 (zdi sg but cls vs fs))∧Below w.heap.size w w':=by
 have B1:∀ o,Below w.heap.size w (w.alloc o):=fun o=>(Below.refl _ _).alloc (Nat.le_refl _) _
 go_enter Tryz.func90,Tryz.ntmps90
 go_wp2
 go_loopw [14] (fun i wr=>∃ (k:Nat),k≤fs.length∧i=.int .i64 k∧zdi sg but cls vs fs=zdi sg but cls vs (fs.drop k)∧Below (w.heap.size+1) (w.alloc (.cells #[.slice a fs.length c,.int .i64 nx,.int .i64 cp,.bool sg] 26)) wr) (fun i _=>fs.length - (intOf i).toNat)
 case atStart=>exact ⟨0,by omega,rfl,rfl,Below.refl _ _⟩
 case round=>
  obtain ⟨k,hk,rfl,hG,hb⟩:=hrel
  have HG:=hidden' hG
  clear hG
  have hb0:=hb
  rw [← World.size_alloc w (.cells #[.slice a fs.length c,.int .i64 nx,.int .i64 cp,.bool sg] 26)] at hb0
  have hbw:Below w.heap.size w wr:=(B1 _).trans (hb0.mono (by simp))
  by_cases hkl:k<fs.length
  ·obtain ⟨f,hfk⟩:∃ f,fs[k]?=some f:=⟨fs[k],by simp [hkl]⟩
   obtain ⟨b,o,rfl,c0,c1,s,cs,c2,hsl⟩:=hv.below hbw k f hfk
   have HD:=hidden' (zak hfk)
   have hsf:=hs f (List.mem_of_getElem? hfk)
   have r3:wr.cell? ⟨w.heap.size,3,none⟩=some (.bool sg):=zaa hb0 (by simp [go_sem])
   have hzr:w.heap.size+1≤wr.heap.size:=by have:=hb0.size;simpa using this
   have hbo:∀ o,Below wr.heap.size wr (wr.alloc o):=fun o=>(Below.refl _ _).alloc (Nat.le_refl _) _
   have hsv2:=hsv.below hbw
   have hz3:w.heap.size<wr.heap.size:=by omega
   cases sg
   ·go_wp2
    go_roundw
    case rel=>exact ⟨k+1,by omega,by go_num,by rw [HG.out];rfl,hb.alloc hzr _⟩
    case measure=>simp [intOf];omega
   ·cases ht:(f.tag != but)
    ·have hbar:bars but cls vs f=false:=by unfold bars;simp at ht;simp [ht]
     have HT:=hidden' (show zdi true but cls vs (fs.drop k)=zdi true but cls vs (fs.drop (k+1)) by rw [HD.out];show (if bars but cls vs f then f.tag else _)=_;rw [hbar];rfl)
     go_wp2
     go_roundw
     case rel=>exact ⟨k+1,by omega,by go_num,by rw [HG.out,HT.out],hb.alloc hzr _⟩
     case measure=>simp [intOf];omega
    ·cases hcl:(f.cls.toList==cls.toList)
     ·have hbar:bars but cls vs f=false:=by rw [zaL] at hcl;unfold bars;rw [hcl];simp
      have HT:=hidden' (show zdi true but cls vs (fs.drop k)=zdi true but cls vs (fs.drop (k+1)) by rw [HD.out];show (if bars but cls vs f then f.tag else _)=_;rw [hbar];rfl)
      go_wp2
      go_roundw
      case rel=>exact ⟨k+1,by omega,by go_num,by rw [HG.out,HT.out],hb.alloc hzr _⟩
      case measure=>simp [intOf];omega
     ·have hbar:bars but cls vs f=decide (f.slots=vs):=by rw [zaL] at hcl;unfold bars;rw [hcl];simp at ht;simp [ht]
      have HT:=hidden' (show zdi true but cls vs (fs.drop k)=if decide (f.slots=vs) then f.tag else zdi true but cls vs (fs.drop (k+1)) by rw [HD.out];show (if bars but cls vs f then f.tag else _)=_;rw [hbar];rfl)
      cases hss:decide (f.slots=vs)
      ·go_wp2_with (go_at_call 124;refine (zb5 s sa cs sc f.slots vs _ (hsl.below (hbo _)) (hsv2.below (hbo _)) hsf).mono ?_;rintro e w3 ⟨rfl,hb3⟩)
       go_roundw
       case rel=>exact ⟨k+1,by omega,by go_num,by rw [HG.out,HT.out,hss];rfl,(hb.alloc hzr _).trans (hb3.mono (by simp;omega))⟩
       case measure=>simp [intOf];omega
      ·go_wp2_with (go_at_call 124;refine (zb5 s sa cs sc f.slots vs _ (hsl.below (hbo _)) (hsv2.below (hbo _)) hsf).mono ?_;rintro e w3 ⟨rfl,hb3⟩;obtain ⟨hc3,hf3⟩:=bcell hb3)
       go_ret
       exact ⟨zbk (by rw [HG.out,HT.out,hss];rfl),(hbw.alloc (by omega) _).trans (hb3.mono (by simp;omega))⟩
  ·go_wp2
   go_ret
   exact ⟨zbk (by rw [HG.out,List.drop_eq_nil_of_le (by omega)];cases sg <;> rfl),hbw⟩
end Go.Proofs.YtmmdlgjmplddiaaGreat
namespace Go.Proofs.YtmmdlgjmplddiaaGreat
open Go.RowKit
attribute [local go_sem ↓] Go.wp_at_zero Go.wp_at_succ
def stC (a:Option Addr) (n c:Nat) (nx cp:Int) (sg:Bool):List Value:=[.slice a n c,.int .i64 nx,.int .i64 cp,.bool sg]
theorem zoA (a:Option Addr) (n c:Nat) (nx cp:Int) (sg:Bool):∀ v∈stC a n c nx cp sg,v.oneCell'=true:=by
 intro v hv
 simp only [stC,List.mem_cons,List.not_mem_nil,or_false] at hv
 rcases hv with rfl | rfl | rfl | rfl <;> rfl
theorem znY:(Tryz.prog.info? 26).map (·.size)=some 4:=by kernel_rfl
theorem zdw {w w':World}{b:Nat}{o:Obj} (h:w.heap[b]?=some o) (hb:Below w.heap.size w w'):w'.heap[b]?=some o:=(hb.block b (zab h)).trans h
theorem zkO {w w':World}{b b':Nat}{o:Obj} (h:w.heap[b]?=some o) (ht:Turned w w' b') (hne:b≠b'):w'.heap[b]?=some o:=(ht.block b hne).trans h
theorem zlj {w w':World}{o o':Obj}{b:Nat} (h:w.heap[b]?=some o) (ht:Turned (w.alloc o') w' w.heap.size):w'.heap[b]?=some o:=by
 have hl:=zab h
 exact zkO ((Below.heap_alloc _ _ _ hl).trans h) ht (by omega)
theorem zl2 {w w':World}{o':Obj} (ht:Turned (w.alloc o') w' w.heap.size):Below w.heap.size w w':=
 ((Below.refl _ _).alloc (Nat.le_refl _) _).trans (ht.below (Nat.le_refl _))
theorem znz {w w':World}{o':Obj} (ht:Turned (w.alloc o') w' w.heap.size):w'.heap.size=w.heap.size+1:=by rw [ht.size];simp
theorem zjR {w:World}{b:Nat}{a:Option Addr}{n c:Nat}{nx cp:Int}{sg:Bool}{t:TypeId}{fr:Nat × Nat} (h:w.heap[b]?=some (.cells (stC a n c nx cp sg).toArray t fr)):w.cell? ⟨b,0,none⟩=some (.slice a n c)∧w.cell? ⟨b,1,none⟩=some (.int .i64 nx)∧w.cell? ⟨b,2,none⟩=some (.int .i64 cp)∧w.cell? ⟨b,3,none⟩=some (.bool sg):=by
 have hc:=zdn h
 exact ⟨hc 0 _ rfl,hc 1 _ rfl,hc 2 _ rfl,hc 3 _ rfl⟩
def wt (l:List F):Nat:=2 * l.length+3 * (l.map fun f=>f.slots.length).sum
end Go.Proofs.YtmmdlgjmplddiaaGreat
namespace Go.Proofs.YtmmdlgjmplddiaaGreat
open Go.RowKit Go.Maps
attribute [local go_sem ↓] Go.wp_at_zero Go.wp_at_succ
def zph:Value→Nat
 | .pointer (some p)=>p.block
 | _=>0
attribute [local go_sem] zph
end Go.Proofs.YtmmdlgjmplddiaaGreat
namespace Go.Proofs.YtmmdlgjmplddiaaGreat
open Go.RowKit
attribute [local go_sem ↓] Go.wp_at_zero Go.wp_at_succ
structure PFs (Z:Nat→Prop) (w:World) (base:Nat) (v:Value) (n:Nat) (fs:List F) (xs:List Value):Prop where
 num:n=fs.length
 len:xs.length=fs.length
 own:w.ownsRow base 42 3 v n (frows fs xs)
 each:∀ (i:Nat) (f:F) (x:Value),fs[i]?=some f→xs[i]?=some x→∃ a c,x=.slice a f.slots.length c∧zbV Z w a f.slots
 apart:∀ b,Z b→v.ownBlock≠some b
theorem OFs.pfs {w:World}{base:Nat}{v:Value}{n:Nat}{fs:List F}{xs:List Value} (h:OFs w base v n fs xs):PFs (fun b=>base≤b∧b<w.heap.size∧v.ownBlock≠some b) w base v n fs xs:=by
 refine ⟨h.num,h.len,h.own,fun i f x hf hx=>?_,fun b hb=>hb.2.2⟩
 obtain ⟨⟨a,c,e⟩,ho⟩:=h.each i f x hf hx
 have hap:=h.apart x (List.mem_of_getElem? hx)
 subst e
 refine ⟨a,c,rfl,fun j u hu=>?_⟩
 obtain ⟨b,o,rfl,h1,h2⟩:=zaV.owns ho j u hu
 exact ⟨b,o,⟨(ho.lt b rfl).1,World.block_lt_of_cell? w ⟨b,_,none⟩ h1,fun e=>hap b e rfl⟩,rfl,h1,h2⟩
theorem PFs.below {Z:Nat→Prop}{w w':World}{base:Nat}{v:Value}{n:Nat}{fs:List F}{xs:List Value} (h:PFs Z w base v n fs xs) (hb:Below w.heap.size w w'):PFs Z w' base v n fs xs:=
 ⟨h.num,h.len,zae h.own (fun g hg=>hb.block g (h.own.lt g hg).2),fun i f x hf hx=>by
  obtain ⟨a,c,e,hv⟩:=h.each i f x hf hx
  exact ⟨a,c,e,hv.kept (fun b _ hlt=>hb.block b hlt)⟩,h.apart⟩
theorem PFs.mono {Z Z':Nat→Prop}{w:World}{base:Nat}{v:Value}{n:Nat}{fs:List F}{xs:List Value} (h:PFs Z w base v n fs xs) (hz:∀ b,Z b→Z' b) (ha:∀ b,Z' b→v.ownBlock≠some b):PFs Z' w base v n fs xs:=
 ⟨h.num,h.len,h.own,fun i f x hf hx=>by
  obtain ⟨a,c,e,hv⟩:=h.each i f x hf hx
  exact ⟨a,c,e,hv.mono hz⟩,ha⟩
theorem PFs.on {Z:Nat→Prop}{w:World}{base:Nat}{a:Option Addr}{n c:Nat}{fs:List F}{xs:List Value} (h:PFs Z w base (.slice a n c) n fs xs):zcc (fun b=>Z b∨(Value.slice a n c).ownBlock=some b) w a fs:=by
 intro i f hf
 have hi:i<fs.length:=(List.getElem?_eq_some_iff.1 hf).1
 have hx:xs[i]?=some (xs[i]'(by rw [h.len];exact hi)):=List.getElem?_eq_getElem _
 obtain ⟨a',c',e,ho⟩:=h.each i f _ hf hx
 have key:=fun j (hj:j<3)=>zdZ fs xs h.len i f _ hf hx j hj
 obtain ⟨g,rfl,_,h0,_⟩:=zam h.own ((key 0 (by omega)).trans rfl)
 obtain ⟨g1,he1,_,h1,_⟩:=zam h.own ((key 1 (by omega)).trans rfl)
 obtain ⟨g2,he2,_,h2,_⟩:=zam h.own ((key 2 (by omega)).trans rfl)
 cases he1
 cases he2
 rw [e] at h2
 exact ⟨g,0,.inr rfl,rfl,by simpa using h0,by simpa using h1,a',c',by simpa using h2,ho.mono (fun b hz=>.inl hz)⟩
theorem PFs.snoc {Z:Nat→Prop}{w w':World}{base:Nat}{v v':Value}{n:Nat}{fs:List F}{xs:List Value}{f:F}{x:Value} (h:PFs Z w base v n fs xs) (hZ:∀ b,Z b→b<w.heap.size) (hx:∃ a c,x=.slice a f.slots.length c∧zbV Z w a f.slots)
  (ho:w'.ownsRow base 42 3 v' (n+1) (frows fs xs ++ fcells f x)) (hg:w.grownBy w' v.ownBlock) (hl:v'.ownBlock=v.ownBlock∨v'.ownBlock=some w.heap.size):PFs Z w' base v' (n+1) (fs ++ [f]) (xs ++ [x]):=by
 have keep:∀ (a:Option Addr) (vs:List V),zbV Z w a vs→zbV Z w' a vs:=fun a vs hv=>hv.kept (fun b hz hlt=>hg.block b hlt (fun e=>h.apart b hz e.symm))
 refine ⟨by simp [h.num],by simp [h.len],by rw [zgq fs xs h.len];exact ho,?_,?_⟩
 ·intro i f' y hf hy
  by_cases hi:i<fs.length
  ·rw [List.getElem?_append_left hi] at hf
   rw [List.getElem?_append_left (by rw [h.len];exact hi)] at hy
   obtain ⟨a,c,e,hv⟩:=h.each i f' y hf hy
   exact ⟨a,c,e,keep a _ hv⟩
  ·have hil:i<(fs ++ [f]).length:=(List.getElem?_eq_some_iff.1 hf).1
   simp at hil
   obtain rfl:i=fs.length:=by omega
   rw [List.getElem?_append_right (Nat.le_refl _)] at hf
   rw [List.getElem?_append_right (by rw [h.len];exact Nat.le_refl _),h.len] at hy
   simp at hf hy
   subst hf
   subst hy
   obtain ⟨a,c,e,hv⟩:=hx
   exact ⟨a,c,e,keep a _ hv⟩
 ·intro b hz
  rcases hl with hl | hl
  ·rw [hl];exact h.apart b hz
  ·rw [hl]
   intro e
   cases e
   have:=hZ _ hz
   omega
theorem zo5 {W w1:World} (hb:Below W.drew.heap.size W.drew w1):(∀ b o,b<W.heap.size→w1.cell? ⟨b,o,none⟩=W.cell? ⟨b,o,none⟩)∧(∀ b o,b<W.heap.size→w1.frozen? ⟨b,o,none⟩=W.frozen? ⟨b,o,none⟩):=
 ⟨fun b o h=>hb.cell (p:=⟨b,o,none⟩) h,fun b o h=>hb.frozen (p:=⟨b,o,none⟩) h⟩
theorem zfU {w w1 w2:World}{o:Obj}{v:Value} (hg:(w1.alloc o).grownBy w2 v.ownBlock) (hv:∀ g,v.ownBlock=some g→g<w.heap.size) (b:Nat) (hb:w.heap.size≤b) (hlt:b<w1.heap.size) :
  (∀ j,w2.cell? ⟨b,j,none⟩=w1.cell? ⟨b,j,none⟩)∧(∀ j,w2.frozen? ⟨b,j,none⟩=w1.frozen? ⟨b,j,none⟩):=by
 have e:w2.heap[b]?=w1.heap[b]?:=(hg.block b (by simp;omega) (fun e=>by have:=hv b e.symm;omega)).trans (Below.heap_alloc _ _ _ hlt)
 exact ⟨fun j=>World.cell?_of_block (a:=⟨b,j,none⟩) e,fun j=>by simp [World.frozen?,e]⟩
set_option maxRecDepth 100000 in
set_option maxHeartbeats 1600000 in
theorem zmq (a:Option Addr) (c:Nat) (fs:List F) (xs:List Value) (nx cp:Int) (sg:Bool) (cls:ByteArray) (sa:Option Addr) (sc:Nat) (vs:List V) (Z:Nat→Prop) (base:Nat) (w:World) (hp:PFs Z w base (.slice a fs.length c) fs.length fs xs) (hZ:∀ b,Z b→b<w.heap.size) (hsv:zaV w sa vs) (hl:fs.length≤1048576) (hvl:vs.length≤1048576) (hbase:base≤w.heap.size) (h1:0≤nx) (h2:nx≤1000000) :
  Calls Tryz.prog 91 #[.agg #[.slice a fs.length c,.int .i64 nx,.int .i64 cp,.bool sg],.string cls,.slice sa vs.length sc] w fun e w'=>
   (∃ a' c',e=.returned (C6.val ⟨fs ++ [⟨nx,cls,vs⟩],nx+1,cp,sg,0,nx⟩ a' c')∧zcc (fun b=>Z b∨base≤b) w' a' (fs ++ [⟨nx,cls,vs⟩])∧fs.length+1≤c')∧Below base w w':=by
 have B2:∀ o o',Below w.heap.size w ((w.alloc o).alloc o'):=fun o o'=>((Below.refl _ _).alloc (Nat.le_refl _) _).alloc (by simp) _
 have hw1:IntKind.i64.wrap (nx+1)=nx+1:=by rw [IntKind.wrap_i64];omega
 have hw2:IntKind.i64.wrap (nx+1 - 1)=nx:=by rw [IntKind.wrap_i64];omega
 have HP:=hidden' hp
 have hvb:=hidden' (fun g (hg:(Value.slice a fs.length c).ownBlock=some g)=>(hp.own.lt g hg).2)
 clear hp
 go_enter Tryz.func91,Tryz.ntmps91
 go_wp2_with fail
 go_region_law (first | (go_simp;go_at_call 126;refine (ze9 sa sc vs _ (hsv.below ?_) hvl).mono ?_;exact (B2 _ _).drew;rintro e w1 ⟨⟨a1,c1,rfl,hx1⟩,hb1⟩;obtain ⟨hc1,hf1⟩:=zo5 hb1;have HX:=hidden' hx1;clear hx1;have ho1:=hidden' ((HP.out.below (B2 _ _).drew).below hb1);have hzB:w.heap.size+1<w1.heap.size:=Nat.lt_of_lt_of_le (by simp) hb1.size;have hzA:w.heap.size<w1.heap.size:=(by omega)) | (refine zao (by rfl) (.tmp 8) (.tmp 15) 24 (by rfl) base 42 _ 3 48 Tryz.underlying24 zo7 (by rfl) (by omega) _ fs.length _ (by rfl) (ho1.out.own.alloc _) (some ⟨w1.heap.size,0,none⟩) 1 1 (by rfl) (fcells ⟨nx,cls,vs⟩ (.slice a1 vs.length c1)) (by rfl) (fun e=>by cases e) (by exact zgi _ _ _) (zeh _ _ _ _) (by unfold maxLen;omega) (by omega) (by have h2:=hb1.size;simp at h2 ⊢;omega) ?_;intro a2 c2' w2 ho2 hg2 hl2;obtain ⟨hcA0,hfA0⟩:=zfU hg2.out hvb.out w.heap.size (Nat.le_refl _) hzA;obtain ⟨hcB0,hfB0⟩:=zfU hg2.out hvb.out (w.heap.size+1) (by omega) hzB;have hcA:=fun j=>(hcA0 j).trans (hc1 w.heap.size j (by simp;omega));have hfA:=fun j=>(hfA0 j).trans (hf1 w.heap.size j (by simp;omega));have hcB:=fun j=>(hcB0 j).trans (hc1 (w.heap.size+1) j (by simp));have hfB:=fun j=>(hfB0 j).trans (hf1 (w.heap.size+1) j (by simp));clear hcA0 hfA0 hcB0 hfB0 hc1 hf1) | fail)
 all_goals
  have hZ2:∀ b,(Z b∨(w.heap.size+1+1≤b∧b<w1.heap.size))→b<w1.heap.size:=fun b hb=>by
   rcases hb with hb | hb
   ·have:=hZ b hb;omega
   ·exact hb.2
  have hm:=(ho1.out.below ((Below.refl _ _).alloc (Nat.le_refl _) (.cells (fcells ⟨nx,cls,vs⟩ (.slice a1 vs.length c1)).toArray 42))).mono (Z':=fun b=>Z b∨(w.heap.size+1+1≤b∧b<w1.heap.size)) (fun b hb=>.inl hb) (fun b hb=>by
   rcases hb with hb | hb
   ·exact ho1.out.apart b hb
   ·intro e;have:=hvb.out b e;omega)
  have hnew:zbV (fun b=>Z b∨(w.heap.size+1+1≤b∧b<w1.heap.size)) (w1.alloc (.cells (fcells ⟨nx,cls,vs⟩ (.slice a1 vs.length c1)).toArray 42)) a1 vs:=
   ((zbV.owns HX.out.2).mono (fun b hb=>.inr (by have:=hb.1;simp at this;exact ⟨this,hb.2⟩))).kept (fun b _ hlt=>Below.heap_alloc _ _ _ hlt)
  have hS:=hm.snoc (f:=⟨nx,cls,vs⟩) (fun b hb=>by have:=hZ2 b hb;simp;omega) ⟨a1,c1,rfl,hnew⟩ ho2.out hg2.out hl2.out
  have HS:=hidden' hS.on
  have HB2:=hidden' ho2.out.lt
  clear hm hnew hS
  go_wp2
  refine bodyPost_ret (v:=C6.val ⟨fs ++ [⟨nx,cls,vs⟩],nx+1,cp,sg,0,nx⟩ a2 c2') (by simp [results,Tryz.results91,go_sem,hcB,C6.val]) rfl ⟨⟨a2,c2',rfl,?_,zdK ho2.out⟩,?_⟩
  ·refine (HS.out.kept (w':=_) ?_).mono ?_
   rotate_left
   ·intro b hz
    rcases hz with (hz | hz) | hz
    ·exact .inl hz
    ·exact .inr (by omega)
    ·exact .inr (HB2.out b hz).1
   intro b hz _
   have hne:b≠w.heap.size∧b≠w.heap.size+1:=by
    rcases hz with (hz | hz) | hz
    ·have:=hZ b hz;omega
    ·omega
    ·rcases hl2.out with e | e
     ·have:=hvb.out b (e.symm.trans hz);omega
     ·have:=e.symm.trans hz
      simp at this
      omega
   have k1:∀ (v:World) o u,(v.setCell ⟨w.heap.size,o,none⟩ u).heap[b]?=v.heap[b]?:=fun v o u=>Below.heap_setCell _ _ _ _ hne.1
   have k2:∀ (v:World) o u,(v.setCell ⟨w.heap.size+1,o,none⟩ u).heap[b]?=v.heap[b]?:=fun v o u=>Below.heap_setCell _ _ _ _ hne.2
   simp only [k1,k2]
  ·have hW1:Below base w w1:=((B2 _ _).drew.trans (hb1.mono (by simp;omega))).mono hbase
   have hW2:Below base w w2:=(hW1.alloc (by omega) _).grown hg2.out (by simp;omega) (fun j hj=>(ho1.out.own.lt j hj).1)
   exact (((((((hW2.setCell (by simp;omega) _).setCell (by simp;omega) _).setCell (by simp;omega) _).setCell (by simp;omega) _).setCell (by simp;omega) _).setCell (by simp;omega) _).setCell (by simp;omega) _).setCell (by simp;omega) _
end Go.Proofs.YtmmdlgjmplddiaaGreat
namespace Go.Proofs.YtmmdlgjmplddiaaGreat
open Go.RowKit
attribute [local go_sem ↓] Go.wp_at_zero Go.wp_at_succ
def asOk (fs:List F) (nx cp:Int) (sg:Bool) (cls:ByteArray) (vs:List V):C6:=
 if 0<zdi sg 0 cls vs fs then ⟨fs,nx,cp,sg,2,zdi sg 0 cls vs fs⟩ else if (fs.length:Int)=cp then ⟨fs,nx,cp,sg,3,0⟩ else if 1000000<nx then ⟨fs,nx,cp,sg,4,0⟩ else ⟨fs ++ [⟨nx,cls,vs⟩],nx+1,cp,sg,0,nx⟩
def asrt (fs:List F) (nx cp:Int) (sg:Bool) (cls:ByteArray) (vs:List V):C6:=
 if zby fs nx cp sg && (gSym cls.data.toList && zbn vs) then asOk fs nx cp sg cls vs else C6.bad
theorem znw {fs:List F}{nx cp:Int}{sg:Bool}{cls:ByteArray}{vs:List V} (h:(zby fs nx cp sg && (gSym cls.data.toList && zbn vs))=false):asrt fs nx cp sg cls vs=C6.bad:=by unfold asrt;rw [h];rfl
theorem zla {fs:List F}{nx cp:Int}{sg:Bool}{cls:ByteArray}{vs:List V} (h1:zby fs nx cp sg=true) (h2:gSym cls.data.toList=true) (h3:zbn vs=true):asrt fs nx cp sg cls vs=asOk fs nx cp sg cls vs:=by unfold asrt;rw [h1,h2,h3];rfl
theorem zjf {fs:List F}{nx cp:Int}{sg:Bool} (h:zby fs nx cp sg=true):0≤cp∧cp≤40∧(fs.length:Int)≤cp∧1≤nx∧nx≤1000001:=by
 simp only [zby,zeN,Bool.and_eq_true,decide_eq_true_eq] at h
 omega
set_option maxRecDepth 100000 in
set_option maxHeartbeats 1600000 in
theorem zoh (a:Option Addr) (c:Nat) (fs:List F) (nx cp:Int) (sg:Bool) (cls:ByteArray) (sa:Option Addr) (sc:Nat) (vs:List V) (w:World) (hv:zaH w a fs) (hsv:zaV w sa vs) (hc:fs.length≤c) (hl:fs.length≤1048576) (hs:∀ f∈fs,Sized f) (hcs:cls.size≤maxLen) (hvl:vs.length≤1048576) (hvs:∀ v∈vs,v.sym.size≤maxLen) (hbad:(zby fs nx cp sg && (gSym cls.data.toList && zbn vs))=false) :
  Calls Tryz.prog 51 #[.agg #[.slice a fs.length c,.int .i64 nx,.int .i64 cp,.bool sg],.string cls,.slice sa vs.length sc] w fun e w'=>
   (∃ a' c',e=.returned (C6.bad.val a' c')∧zaH w' a' C6.bad.fs∧C6.bad.fs.length≤c')∧Below w.heap.size w w':=by
 have B2:∀ o o',Below w.heap.size w ((w.alloc o).alloc o'):=fun o o'=>((Below.refl _ _).alloc (Nat.le_refl _) _).alloc (by simp) _
 cases hva:zby fs nx cp sg
 ·clear hbad
  go_enter Tryz.func51,Tryz.ntmps51
  go_wp2_with (go_at_call 86;refine (zbY a c fs nx cp sg _ (hv.below (B2 _ _)) hc hl hs).mono ?_;rintro e w1 ⟨rfl,hb1⟩;obtain ⟨hc1,hf1⟩:=bcell hb1)
  refine bodyPost_ret (v:=C6.bad.val none 0) (by simp [results,Tryz.results51,go_sem,hc1,C6.val,C6.bad]) rfl ⟨⟨none,0,rfl,fun i f hf=>by simp [C6.bad] at hf,Nat.zero_le _⟩,?_⟩
  have hB:Below w.heap.size w w1:=(B2 _ _).trans (hb1.mono (by simp;omega))
  exact (((((hB.setCell (by simp) _).setCell (by simp) _).setCell (by simp) _).setCell (by simp) _).setCell (by simp) _).setCell (by simp) _
 ·rw [hva,Bool.true_and] at hbad
  cases hgs:gSym cls.data.toList
  ·clear hbad
   go_enter Tryz.func51,Tryz.ntmps51
   go_wp2_with (first | (go_at_call 86;refine (zbY a c fs nx cp sg _ (hv.below (B2 _ _)) hc hl hs).mono ?_;rintro e w1 ⟨rfl,hb1⟩;obtain ⟨hc1,hf1⟩:=bcell hb1) | (go_at_call 87;refine (zaQ cls _ hcs).mono ?_;rintro e w' ⟨rfl,rfl⟩) | fail)
   refine bodyPost_ret (v:=C6.bad.val none 0) (by simp [results,Tryz.results51,go_sem,hc1,C6.val,C6.bad]) rfl ⟨⟨none,0,rfl,fun i f hf=>by simp [C6.bad] at hf,Nat.zero_le _⟩,?_⟩
   have hB:Below w.heap.size w _:=(B2 _ _).trans (hb1.mono (by simp;omega))
   exact (((((hB.setCell (by simp) _).setCell (by simp) _).setCell (by simp) _).setCell (by simp) _).setCell (by simp) _).setCell (by simp) _
  ·rw [hgs,Bool.true_and] at hbad
   go_enter Tryz.func51,Tryz.ntmps51
   go_wp2_with (first | (go_at_call 86;refine (zbY a c fs nx cp sg _ (hv.below (B2 _ _)) hc hl hs).mono ?_;rintro e w1 ⟨rfl,hb1⟩;obtain ⟨hc1,hf1⟩:=bcell hb1;have hB1:Below w.heap.size w w1:=((B2 _ _).trans (hb1.mono (by simp;omega)));have hz1:w.heap.size+1<w1.heap.size:=Nat.lt_of_lt_of_le (by simp) hb1.size) | (go_at_call 87;refine (zaQ cls _ hcs).mono ?_;rintro e w' ⟨rfl,rfl⟩) | (go_at_call 88;refine (zb0 sa sc vs _ (hsv.below hB1) hvl hvs).mono ?_;rintro e w2 ⟨rfl,hb2⟩;obtain ⟨hc2,hf2⟩:=bcell hb2) | fail)
   refine bodyPost_ret (v:=C6.bad.val none 0) (by simp [results,Tryz.results51,go_sem,hc1,hc2,hz1,C6.val,C6.bad]) rfl ⟨⟨none,0,rfl,fun i f hf=>by simp [C6.bad] at hf,Nat.zero_le _⟩,?_⟩
   have hB:Below w.heap.size w w2:=hB1.trans (hb2.mono hB1.size)
   exact (((((hB.setCell (by simp) _).setCell (by simp) _).setCell (by simp) _).setCell (by simp) _).setCell (by simp) _).setCell (by simp) _
set_option maxRecDepth 100000 in
set_option maxHeartbeats 3200000 in
theorem zkG (a:Option Addr) (c:Nat) (fs:List F) (nx cp:Int) (sg:Bool) (cls:ByteArray) (sa:Option Addr) (sc:Nat) (vs:List V) (w:World) (hv:zaH w a fs) (hsv:zaV w sa vs) (hc:fs.length≤c) (hl:fs.length≤1048576) (hs:∀ f∈fs,Sized f) (hcs:cls.size≤maxLen) (hvl:vs.length≤1048576) (hvs:∀ v∈vs,v.sym.size≤maxLen) (hva:zby fs nx cp sg=true) (hgs:gSym cls.data.toList=true) (hgv:zbn vs=true) :
  Calls Tryz.prog 51 #[.agg #[.slice a fs.length c,.int .i64 nx,.int .i64 cp,.bool sg],.string cls,.slice sa vs.length sc] w fun e w'=>
   (∃ a' c',e=.returned ((asOk fs nx cp sg cls vs).val a' c')∧zaH w' a' (asOk fs nx cp sg cls vs).fs∧(asOk fs nx cp sg cls vs).fs.length≤c')∧Below w.heap.size w w':=by
 have B2:∀ o o',Below w.heap.size w ((w.alloc o).alloc o'):=fun o o'=>((Below.refl _ _).alloc (Nat.le_refl _) _).alloc (by simp) _
 have hsl:∀ f∈fs,f.slots.length≤1048576:=fun f hf=>(hs f hf).2.1
 obtain ⟨n1,n2,n3,n4,n5⟩:=zjf hva
 go_enter Tryz.func51,Tryz.ntmps51
 go_wp2_with (first | (go_at_call 86;refine (zbY a c fs nx cp sg _ (hv.below (B2 _ _)) hc hl hs).mono ?_;rintro e w0 ⟨rfl,hb0⟩;obtain ⟨hc0,hf0⟩:=bcell hb0;have hB0:Below w.heap.size w w0:=((B2 _ _).trans (hb0.mono (by simp;omega)));have hz0:w.heap.size+1<w0.heap.size:=Nat.lt_of_lt_of_le (by simp) hb0.size;have hz0':w.heap.size<w0.heap.size:=(by omega)) | (go_at_call 87;refine (zaQ cls _ hcs).mono ?_;rintro e w' ⟨rfl,rfl⟩) | (go_at_call 88;refine (zb0 sa sc vs _ (hsv.below hB0) hvl hvs).mono ?_;rintro e w1 ⟨rfl,hb1⟩;obtain ⟨hc1,hf1⟩:=bcell hb1) | fail)
 have hB1:Below w.heap.size w w1:=hB0.trans (hb1.mono hB0.size)
 have hz1:w.heap.size+1<w1.heap.size:=Nat.lt_of_lt_of_le hz0 hb1.size
 obtain ⟨R,hR,hRs⟩:∃ R:Array Value,w1.heap[w.heap.size+1]?=some (.cells R 132 (0,0))∧R.size=6:=⟨_,(hb1.block _ hz0).trans ((hb0.block _ (by simp)).trans (ziP _ _ _ (by simp))),rfl⟩
 have HA1:w1.heap[w.heap.size]?=some (.cells (stC a fs.length c nx cp sg).toArray 26 (0,0)):=(hb1.block _ hz0').trans ((hb0.block _ (by simp;omega)).trans ((Below.heap_alloc _ _ _ (by simp)).trans (ziP _ _ _ rfl)))
 clear hc0 hf0 hc1 hf1
 refine (zkM a c fs nx cp sg w1 (hv.below hB1) hl hsl).mono ?_
 rintro e w2 ⟨⟨a2,c2,xs2,rfl,ho2⟩,hb2⟩
 have HA2:=hidden' (zdw HA1 hb2)
 have HR2:=hidden' (zdw hR hb2)
 have hB2:Below w.heap.size w w2:=hB1.trans (hb2.mono hB1.size)
 have hz2:=hb2.size
 clear HA1 hR
 go_wp2_with (first | (refine zal (by rfl) 26 (.tmp 7) (.tmp 24) (by rfl) w2.heap.size (stC a2 fs.length c2 nx cp sg) (by rfl) (by rfl) _ 26 (ziP _ _ _ rfl) (by rfl) znY (zoA _ _ _ _ _ _) ?_;intro w2' hh2 ht2;have HA2':=hidden' (zlj HA2.out ht2.out)) | (refine zds (by rfl) 26 (.tmp 3) (by rfl) w.heap.size (stC a fs.length c nx cp sg) (by rfl) 26 (0,0) HA2'.out _ Tryz.underlying26 (by rfl) znY ?_) | fail)
 have hn2:=zl2 ht2.out
 have hz2':=znz ht2.out
 have hB2':Below w.heap.size w w2':=hB2.trans (hn2.mono hB2.size)
 have HR2':=hidden' (zlj HR2.out ht2.out)
 have HO2':=hidden' (ho2.below hn2)
 clear ht2 HA2 HR2 ho2 hn2
 refine (zi0 a c fs nx cp sg 0 cls sa sc vs w2' (hv.below hB2') (hsv.below hB2') hl hsl).mono ?_
 rintro e w3 ⟨rfl,hb3⟩
 have HA3:=hidden' (zdw HA2'.out hb3)
 have HC3:=hidden' (zdw hh2.out hb3)
 have HR3:=hidden' (zdw HR2'.out hb3)
 have HO3:=hidden' (HO2'.out.below hb3)
 have hB3:Below w.heap.size w w3:=hB2'.trans (hb3.mono hB2'.size)
 have hz3:=hb3.size
 have hsv3:=hsv.below hB3
 obtain ⟨q0,q1,q2,q3⟩:=zjR HA3.out
 obtain ⟨p0,p1,p2,p3⟩:=zjR HC3.out
 clear HA2' HR2' HO2' hh2 hb3 hv hsv hs
 generalize hT:zdi sg 0 cls vs fs=T
 by_cases ht:0<T
 ·have HE:=hidden' (show asOk fs nx cp sg cls vs=⟨fs,nx,cp,sg,2,T⟩ by unfold asOk;rw [hT,if_pos ht])
  clear hT
  go_wp2_with (first | (refine zal (by rfl) 132 (.tmp 6) (.tmp 34) (by rfl) (w.heap.size+1) (C6.cells ⟨fs,nx,cp,sg,2,T⟩ a2 c2) (by rfl) (by rfl) R 132 HR3.out hRs zlh (C6.one _ _ _) ?_;intro w4 hh4 ht4) | fail)
  try go_frame
  refine bodyPost_ret (v:=C6.val ⟨fs,nx,cp,sg,2,T⟩ a2 c2) (by simp [results,Tryz.results51,asAddr,C6.load hh4.out]) rfl ?_
  rw [HE.out]
  exact ⟨⟨a2,c2,rfl,(HO3.out.kept (fun g hg=>ht4.out.block g (by have:=(HO3.out.range hg).1;omega))).at,zdK HO3.out.own⟩,hB3.trans (ht4.out.below (by omega))⟩
 ·by_cases hfull:(fs.length:Int)=cp
  ·have HE:=hidden' (show asOk fs nx cp sg cls vs=⟨fs,nx,cp,sg,3,0⟩ by unfold asOk;rw [hT,if_neg ht,if_pos hfull])
   have hfb:((fs.length:Int)==cp)=true:=by simpa using hfull
   clear hT
   go_wp2_with (first | (refine zal (by rfl) 132 (.tmp 6) (.tmp 43) (by rfl) (w.heap.size+1) (C6.cells ⟨fs,nx,cp,sg,3,0⟩ a2 c2) (by rfl) (by rfl) R 132 HR3.out hRs zlh (C6.one _ _ _) ?_;intro w4 hh4 ht4) | fail)
   try go_frame
   refine bodyPost_ret (v:=C6.val ⟨fs,nx,cp,sg,3,0⟩ a2 c2) (by simp [results,Tryz.results51,asAddr,C6.load hh4.out]) rfl ?_
   rw [HE.out]
   exact ⟨⟨a2,c2,rfl,(HO3.out.kept (fun g hg=>ht4.out.block g (by have:=(HO3.out.range hg).1;omega))).at,zdK HO3.out.own⟩,hB3.trans (ht4.out.below (by omega))⟩
  ·have hfb:((fs.length:Int)==cp)=false:=by simpa using hfull
   by_cases hnx:1000000<nx
   ·have HE:=hidden' (show asOk fs nx cp sg cls vs=⟨fs,nx,cp,sg,4,0⟩ by unfold asOk;rw [hT,if_neg ht,if_neg hfull,if_pos hnx])
    clear hT
    go_wp2_with (first | (refine zal (by rfl) 132 (.tmp 6) (.tmp 49) (by rfl) (w.heap.size+1) (C6.cells ⟨fs,nx,cp,sg,4,0⟩ a2 c2) (by rfl) (by rfl) R 132 HR3.out hRs zlh (C6.one _ _ _) ?_;intro w4 hh4 ht4) | fail)
    try go_frame
    refine bodyPost_ret (v:=C6.val ⟨fs,nx,cp,sg,4,0⟩ a2 c2) (by simp [results,Tryz.results51,asAddr,C6.load hh4.out]) rfl ?_
    rw [HE.out]
    exact ⟨⟨a2,c2,rfl,(HO3.out.kept (fun g hg=>ht4.out.block g (by have:=(HO3.out.range hg).1;omega))).at,zdK HO3.out.own⟩,hB3.trans (ht4.out.below (by omega))⟩
   ·have HE:=hidden' (show asOk fs nx cp sg cls vs=⟨fs ++ [⟨nx,cls,vs⟩],nx+1,cp,sg,0,nx⟩ by unfold asOk;rw [hT,if_neg ht,if_neg hfull,if_neg hnx])
    clear hT
    go_wp2_with (first | fail)
    refine (zmq a2 c2 fs xs2 nx cp sg cls sa sc vs _ w1.heap.size w3 HO3.out.pfs (fun b hb=>hb.2.1) hsv3 hl hvl (by omega) (by omega) (by omega)).mono ?_
    rintro e w5 ⟨⟨a5,c5,rfl,hon5,hcap5⟩,hb5⟩
    have HR5:=hidden' ((hb5.block (w.heap.size+1) hz1).trans HR3.out)
    go_wp2_with (first | (refine zal (by rfl) 132 (.tmp 6) (.tmp 53) (by rfl) (w.heap.size+1) (C6.cells ⟨fs ++ [⟨nx,cls,vs⟩],nx+1,cp,sg,0,nx⟩ a5 c5) (by rfl) (by rfl) R 132 HR5.out hRs zlh (C6.one _ _ _) ?_;intro w4 hh4 ht4) | fail)
    try go_frame
    refine bodyPost_ret (v:=C6.val ⟨fs ++ [⟨nx,cls,vs⟩],nx+1,cp,sg,0,nx⟩ a5 c5) (by simp [results,Tryz.results51,asAddr,C6.load hh4.out]) rfl ?_
    rw [HE.out]
    refine ⟨⟨a5,c5,rfl,?_,by rw [List.length_append];exact hcap5⟩,(hB3.trans (hb5.mono hB1.size)).trans (ht4.out.below (by omega))⟩
    exact (hon5.kept (fun b hz _=>ht4.out.block b (by rcases hz with hz | hz <;> omega))).at
end Go.Proofs.YtmmdlgjmplddiaaGreat
