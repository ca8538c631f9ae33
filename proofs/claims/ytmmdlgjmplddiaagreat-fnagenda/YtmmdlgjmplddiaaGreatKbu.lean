/-
  OUR OWN TEXT. Dw11, Ic11, Sc6a, Sc5, Sc6, Ic12, Sc7, L2c, Bf6, Yc2, Yc3, Bf5, one behind the other.
-/
import Derived.Test.YtmmdlgjmplddiaaGreatKbp
import Derived.Test.YtmmdlgjmplddiaaGreatHwm
import Derived.Deep.RegionLaw
import Derived.Test.YtmmdlgjmplddiaaGreatKbn
import Derived.Test.YtmmdlgjmplddiaaGreatKbo
import Derived.Test.YtmmdlgjmplddiaaGreatKar
import Derived.Test.YtmmdlgjmplddiaaGreatKbh
import Derived.Test.YtmmdlgjmplddiaaGreatKbg
import Derived.Deep.DrawnRows
import Derived.BigQuiet
import Derived.Deep.RegionHeld3
import Derived.Test.YtmmdlgjmplddiaaGreatKas
import Derived.Test.YtmmdlgjmplddiaaGreatKaz
import Derived.Test.YtmmdlgjmplddiaaGreatKbk
namespace Go.Proofs.YtmmdlgjmplddiaaGreat
open Go.RowKit
attribute [local go_sem ↓] Go.wp_at_zero Go.wp_at_succ
theorem zop {w:World}{base:Nat}{a:Option Addr}{c:Nat}{M:List RuX} (h:RO w base a c M) {i:Nat}{x:RuX} (hi:M[i]?=some x) :
  ∃ k,a=some ⟨k,0,none⟩∧k<w.heap.size∧w.cell? ⟨k,i * 5,none⟩=some (.string x.nm)∧w.cell? ⟨k,i * 5+1,none⟩=some (.int .i64 x.sal)∧w.cell? ⟨k,i * 5+2,none⟩=some x.pv∧w.cell? ⟨k,i * 5+3,none⟩=some x.ev∧w.cell? ⟨k,i * 5+4,none⟩=some x.av:=by
 have key:=fun j u (hj:(rcells x)[j]?=some u)=>zam h.1 (za5 (cells:=rcells) (m:=5) (fun _=>rfl) M i x j u hi hj)
 obtain ⟨k,rfl,_,h0,_⟩:=key 0 _ rfl
 obtain ⟨k1,e1,_,h1,_⟩:=key 1 _ rfl
 obtain ⟨k2,e2,_,h2,_⟩:=key 2 _ rfl
 obtain ⟨k3,e3,_,h3,_⟩:=key 3 _ rfl
 obtain ⟨k4,e4,_,h4,_⟩:=key 4 _ rfl
 cases e1
 cases e2
 cases e3
 cases e4
 exact ⟨k,rfl,World.block_lt_of_cell? w ⟨k,_,none⟩ h0,h0,h1,h2,h3,h4⟩
theorem znK {w:World}{base:Nat}{a:Option Addr}{c:Nat}{L:List PtV} (h:PO w base a c L) {i:Nat}{x:PtV} (hi:L[i]?=some x) :
  ∃ k,a=some ⟨k,0,none⟩∧k<w.heap.size∧w.cell? ⟨k,i * 3,none⟩=some (.bool x.1.neg)∧w.cell? ⟨k,i * 3+1,none⟩=some (.string x.1.cls)∧w.cell? ⟨k,i * 3+2,none⟩=some x.2:=by
 have key:=fun j u (hj:(pcells x)[j]?=some u)=>zam h.1 (za5 (cells:=pcells) (m:=3) (fun _=>rfl) L i x j u hi hj)
 obtain ⟨k,rfl,_,h0,_⟩:=key 0 _ rfl
 obtain ⟨k1,e1,_,h1,_⟩:=key 1 _ rfl
 obtain ⟨k2,e2,_,h2,_⟩:=key 2 _ rfl
 cases e1
 cases e2
 exact ⟨k,rfl,World.block_lt_of_cell? w ⟨k,_,none⟩ h0,h0,h1,h2⟩
theorem PO.rsT {base g:Nat}{w w':World}{a:Option Addr}{c:Nat}{L:List PtV} (h:PO w base a c L) (hr:Rs g w w') (hg:Rdr w g):PO w' base a c L:=h.same (T:=[38,115]) (Same.rsT hr hg (by decide)) (by decide) (by decide)
abbrev FcV:=F × Value
def fxcells (x:FcV):List Value:=[.int .i64 x.1.tag,.string x.1.cls,x.2]
def FxP (w:World) (base:Nat) (x:FcV):Prop:=((∃ a c,x.2=.slice a x.1.slots.length c)∧w.ownsRow base 109 3 x.2 x.1.slots.length (x.1.slots.flatMap V.cells))∧GCl x.1.cls∧x.1.slots.length≤3∧∀ v∈x.1.slots,VSm v
def FsO (w:World) (base:Nat) (a:Option Addr) (c:Nat) (Fs:List FcV):Prop:=w.ownsRow base 42 3 (.slice a Fs.length c) Fs.length (Fs.flatMap fxcells)∧∀ x∈Fs,FxP w base x
theorem FsO.nil (w:World) (base:Nat):FsO w base none 0 []:=⟨World.ownsRow_nil _ _ _ _,fun x hx=>by simp at hx⟩
theorem FsO.same {T:List TypeId}{base:Nat}{w w':World}{a:Option Addr}{c:Nat}{Fs:List FcV} (h:FsO w base a c Fs) (hs:Same T base w w') (h1:42∈T) (h2:109∈T):FsO w' base a c Fs:=⟨zb2 h.1 hs h1,fun x hx=>⟨⟨(h.2 x hx).1.1,zb2 (h.2 x hx).1.2 hs h2⟩,(h.2 x hx).2⟩⟩
theorem FsO.bel {base:Nat}{w w':World}{a:Option Addr}{c:Nat}{Fs:List FcV} (h:FsO w base a c Fs) (hb:Below w.heap.size w w'):FsO w' base a c Fs:=h.same (T:=[42,109]) (Same.bel hb) (by decide) (by decide)
theorem FsO.rs {base g:Nat}{w w':World}{a:Option Addr}{c:Nat}{Fs:List FcV} (h:FsO w base a c Fs) (hr:Rs g w w') (hg:g<base):FsO w' base a c Fs:=h.same (T:=[42,109]) (Same.rs hr hg) (by decide) (by decide)
theorem FsO.snoc {w w9:World}{base:Nat}{a a9:Option Addr}{c c9:Nat}{Y:List FcV}{x:FcV} (h:FsO w base a c Y) (hx:FxP w base x) (ho:w9.ownsRow base 42 3 (.slice a9 (Y.length+1) c9) (Y.length+1) (Y.flatMap fxcells ++ fxcells x)) (hg:w.grownBy w9 (Value.slice a Y.length c).ownBlock):FsO w9 base a9 c9 (Y ++ [x]):=by
 refine ⟨by simpa using ho,fun y hy=>?_⟩
 have hy':FxP w base y:=by
  rcases List.mem_append.1 hy with hy | hy
  ·exact h.2 y hy
  ·simp at hy
   exact hy ▸ hx
 exact ⟨⟨hy'.1.1,zbh (t:=42) hy'.1.2 hg (fun k hk=>zai h.1 hk) (by decide)⟩,hy'.2⟩
theorem zn7:(Tryz.prog.info? 42).map (fun i=>(i.zero,i.size,i.bytes))=some (some (.agg #[.int .i64 0,.string ⟨#[]⟩,.slice none 0 0]),3,48):=by kernel_rfl
theorem zkR (g base:Nat) (x:PtV) (tag:Int) (w:World) (h:Rdr w g) (hx:PtX w base x) :
  Calls Tryz.prog 85 #[.pointer (some ⟨g,0,none⟩),.agg #[.bool x.1.neg,.string x.1.cls,x.2],.int .i64 tag] w fun e w'=>∃ sa sc vs,e=.returned (.agg #[.int .i64 tag,.string x.1.cls,.slice sa vs.length sc])∧vs.length≤3∧w'.ownsRow w.heap.size 109 3 (.slice sa vs.length sc) vs.length ((vs:List V).flatMap V.cells)∧(∀ v∈vs,VSm v)∧Rs g w w':=zkh g base x tag w h hx
abbrev PatS (w':World) (qb pk n pc:Nat) (f:Nat→PtV):Prop:=w'.cell? ⟨qb,2,none⟩=some (.slice (some ⟨pk,0,none⟩) n pc)∧(∀ j,j<n→w'.cell? ⟨pk,j * 3,none⟩=some (.bool (f j).1.neg))∧(∀ j,j<n→w'.cell? ⟨pk,j * 3+1,none⟩=some (.string (f j).1.cls))∧∀ j,j<n→w'.cell? ⟨pk,j * 3+2,none⟩=some (f j).2
theorem PatS.of {w:World}{base qb pk pc:Nat}{L:List PtV}{f:Nat→PtV} (hq:w.cell? ⟨qb,2,none⟩=some (.slice (some ⟨pk,0,none⟩) L.length pc)) (h:PO w base (some ⟨pk,0,none⟩) pc L) (hf:∀ j,j<L.length→L[j]?=some (f j)):PatS w qb pk L.length pc f:=by
 have key:∀ j,j<L.length→w.cell? ⟨pk,j * 3,none⟩=some (.bool (f j).1.neg)∧w.cell? ⟨pk,j * 3+1,none⟩=some (.string (f j).1.cls)∧w.cell? ⟨pk,j * 3+2,none⟩=some (f j).2:=by
  intro j hj
  obtain ⟨k,e,_,h0,h1,h2⟩:=znK h (hf j hj)
  cases e
  exact ⟨h0,h1,h2⟩
 exact ⟨hq,fun j hj=>(key j hj).1,fun j hj=>(key j hj).2.1,fun j hj=>(key j hj).2.2⟩
theorem PatS.bel {w w':World}{qb pk n pc:Nat}{f:Nat→PtV} (h:PatS w qb pk n pc f) (hb:Below w.heap.size w w'):PatS w' qb pk n pc f:=⟨zaa hb h.1,fun j hj=>zaa hb (h.2.1 j hj),fun j hj=>zaa hb (h.2.2.1 j hj),fun j hj=>zaa hb (h.2.2.2 j hj)⟩
theorem PatS.alloc {w:World}{qb pk n pc:Nat}{f:Nat→PtV} (h:PatS w qb pk n pc f) (o:Obj):PatS (w.alloc o) qb pk n pc f:=PatS.bel h ((Below.refl _ _).alloc (Nat.le_refl _) _)
theorem PatS.grown {w w':World}{qb pk n pc:Nat}{f:Nat→PtV}{row:Option Nat} (h:PatS w qb pk n pc f) (hg:w.grownBy w' row) (ht:∀ k,row=some k→∃ c,w.heap[k]?=some (.cells c 42 (0,0))) (h1:∃ c,w.heap[qb]?=some (.cells c 35 (0,0))) (h2:∃ c,w.heap[pk]?=some (.cells c 38 (0,0))):PatS w' qb pk n pc f:=by
 obtain ⟨c1,h1⟩:=h1
 obtain ⟨c2,h2⟩:=h2
 have e1:w'.heap[qb]?=w.heap[qb]?:=(zaI h1 hg ht (by decide)).trans h1.symm
 have e2:w'.heap[pk]?=w.heap[pk]?:=(zaI h2 hg ht (by decide)).trans h2.symm
 have k1:=fun o=>World.cell?_of_block (w:=w) (w':=w') (a:=⟨qb,o,none⟩) e1
 have k2:=fun o=>World.cell?_of_block (w:=w) (w':=w') (a:=⟨pk,o,none⟩) e2
 exact ⟨(k1 _).trans h.1,fun j hj=>(k2 _).trans (h.2.1 j hj),fun j hj=>(k2 _).trans (h.2.2.1 j hj),fun j hj=>(k2 _).trans (h.2.2.2 j hj)⟩
theorem zmL {k:Nat}{x:RuX} (h:DRu k x.ru):1≤x.pats.length:=by
 obtain ⟨_,K,pos,hd⟩:=h
 have h1:=hd.count
 have h2:=hd.npos.1
 have h3:positives x.ru.pats≤x.ru.pats.length:=List.countP_le_length
 have h4:x.ru.pats.length=x.pats.length:=List.length_map ..
 omega
set_option maxRecDepth 100000 in
set_option maxHeartbeats 12800000 in
theorem ziU (g base most:Nat) (a:Option Addr) (c:Nat) (M:List RuX) (w:World) (h:Rdr w g) (hRO:RO w base a c M) (hMK:MOk M) (hM1:1≤M.length) (hM8:M.length≤8) (hm:most≤12) :
  Calls Tryz.prog 50 #[.pointer (some ⟨g,0,none⟩),.slice a M.length c,.int .i64 (most:Int)] w fun e w'=>∃ fa fc Fs,e=.returned (.slice fa (List.length Fs) fc)∧Fs.length≤most∧FsO w' w.heap.size fa fc Fs∧Rs g w w':=by
 have H:=hidR h
 have MO:=hidR hRO
 have HMK:=hidR hMK
 have hlt:=h.lt
 clear h hRO hMK
 have hm1:¬ (most:Int)+1=0:=by omega
 go_enter Tryz.func50,Tryz.ntmps50
 go_wp2_with fail
 refine (zbb g w H.out).mono ?_
 rintro e w1 ⟨n1,hn1,rfl,hr1⟩
 have R1:=hidR hr1
 clear hr1
 obtain ⟨n0,hn0⟩:∃ n0,n0=most - n1 % (most+1) / 2:=⟨_,rfl⟩
 have hml:=Nat.mod_lt n1 (show 0<most+1 by omega)
 have hn0e:(most:Int) - (n1:Int) % ((most:Int)+1) / 2=(n0:Int):=by
  have:(n1:Int) % ((most:Int)+1)=((n1 % (most+1):Nat):Int):=by push_cast;rfl
  rw [this]
  omega
 have hn01:n0≤most:=by omega
 clear hn0 hml
 go_wp2_with fail
 clear hn0e
 go_loopw [7,8,9] (fun ov tv nv wr=>∃ (j:Nat) (fa:Option Addr) (fc:Nat) (Fs:List FcV) (tag:Int),nv=.int .i64 (j:Int)∧tv=.int .i64 tag∧ov=.slice fa Fs.length fc∧(0≤tag∧tag≤2 * Fs.length)∧Fs.length+j=n0∧FsO wr w.heap.size fa fc Fs∧Rs g w wr) (fun _ _ nv _=>(intOf nv).toNat)
 case atStart=>exact ⟨n0,none,0,[],0,rfl,rfl,rfl,by simp,by simp,FsO.nil _ _,R1.out⟩
 case round=>
  obtain ⟨j,fa,fc,Fs,tag,rfl,rfl,rfl,htag,hj,hFO,hR⟩:=hrel
  have HJ:=hidR hj
  have hj12:j≤12:=by omega
  have hF12:Fs.length≤12:=by omega
  have FO:=hidR hFO
  have R:=hidR hR
  have hsr:=hR.1.rest.size
  clear hj hFO hR R1
  by_cases hj0:j=0
  ·have hFm:Fs.length≤most:=by have:=HJ.out;omega
   clear HJ
   subst hj0
   go_wp2_with fail
   go_ret
   exact ⟨fa,fc,Fs,rfl,hFm,FO.out,R.out⟩
  ·have hj1:(0:Int)<(j:Int):=by omega
   have MOr:=hidR (MO.out.rsT R.out H.out)
   go_wp2_with fail
   refine (zbb g wr R.out.2).mono ?_
   rintro e w2 ⟨n2,hn2,rfl,hr2⟩
   have R2:=hidR (R.out.trans hr2)
   have MO2:=hidR (MOr.out.rsT hr2 R.out.2)
   have FO2:=hidR (FO.out.rs hr2 hlt)
   have hs2:=hr2.1.rest.size
   obtain ⟨i,hi⟩:∃ i,i=(j+n2) % M.length:=⟨_,rfl⟩
   have hiM:i<M.length:=by rw [hi];exact Nat.mod_lt _ (by omega)
   have hie:((j:Int)+(n2:Int)) % (M.length:Int)=(i:Int):=by rw [hi];push_cast;rfl
   have hiI:(i:Int)<(M.length:Int):=by omega
   have hi0:(0:Int)≤(i:Int):=by omega
   have hMn:¬ (M.length:Int)=0:=by omega
   obtain ⟨x,hxi⟩:∃ x,M[i]?=some x:=⟨M[i],by simp [hiM]⟩
   have hL1:=zmL (HMK.out i x hxi).1
   obtain ⟨rk,rfl,hrk,c0,c1,c2,c3,c4⟩:=zop MO2.out hxi
   have hRP:=MO2.out.2 x (List.mem_of_getElem? hxi)
   obtain ⟨⟨pa,pc,hpv,hPO⟩,⟨ea,ec,hev,_⟩,aa,ac,hav,_⟩:=hRP
   rw [hpv] at c2
   rw [hev] at c3
   rw [hav] at c4
   have PO2:=hidR hPO
   clear hr2 hi hxi hPO MOr R FO
   go_upto_region 7 with fail
   refine zaj ?_
   intro w3 hW3 hq3
   have Q3:=hidR hq3
   have q3c:w3.cell? ⟨w2.heap.size,2,none⟩=some (.slice pa x.pats.length pc):=by simp [World.cell?,hq3]
   have hq3l:w2.heap.size<w3.heap.size:=zab hq3
   have R3':=hidR (R2.out.bel hW3)
   have PO3':=hidR (PO2.out.bel hW3)
   have FO3':=hidR (FO2.out.bel hW3)
   have hs3:=hW3.size
   clear hW3 hq3 c0 c1 c2 c3 c4 hie R2 PO2 MO2 FO2
   go_wp2_with fail
   refine (zbb g w3 R3'.out.2).mono ?_
   rintro e w3b ⟨n7,hn7,rfl,hr7⟩
   have R3:=hidR (R3'.out.trans hr7)
   have PO3:=hidR (PO3'.out.rsT hr7 R3'.out.2)
   have FO3:=hidR (FO3'.out.rs hr7 hlt)
   have Q3b:=hidR (zaC hr7 Q3.out (by omega))
   have q3:w3b.cell? ⟨w2.heap.size,2,none⟩=some (.slice pa x.pats.length pc):=zg1 hr7 q3c (by omega)
   have hs3b:=hr7.1.rest.size
   clear hr7 R3' PO3' FO3' Q3 q3c
   go_upto_region 8 with fail
   have hgw:g<w.heap.size:=hlt
   obtain ⟨L,hLL⟩:∃ L,L=x.pats:=⟨_,rfl⟩
   rw [← hLL] at q3 hL1 PO3
   clear hLL
   have hLne:¬ L=[]:=fun e=>by rw [e] at hL1;simp at hL1
   obtain ⟨f,hf⟩:∃ f:Nat→PtV,∀ j,j<L.length→L[j]?=some (f j):=⟨fun j=>L[j]?.getD (L[0]'(by omega)),fun j hj=>by simp [hj]⟩
   obtain ⟨pk,hpk,hpkl,_,_,_⟩:=znK PO3.out (hf 0 (by omega))
   subst hpk
   have HF:=hidR hf
   clear hf
   have q3d:w3b.drew.cell? ⟨w2.heap.size,2,none⟩=some (.slice (some ⟨pk,0,none⟩) L.length pc):=q3
   have HRD:=hidR (R3.out.2.bel (Below.refl _ _).drew)
   have POd:=hidR (PO3.out.bel (Below.refl _ _).drew)
   have FOd:=hidR (FO3.out.bel (Below.refl _ _).drew)
   have hLn:¬ (L.length:Int)=0:=by omega
   have PSd:=hidR (PatS.of q3d POd.out HF.out)
   refine wp_region_noPanic ?_
   refine wp_region_held_drew (S:=(fun w'=>w'.cell? ⟨w2.heap.size,2,none⟩=some (.slice (some ⟨pk,0,none⟩) L.length pc)∧(∀ j,j<L.length→w'.cell? ⟨pk,j * 3,none⟩=some (.bool (f j).1.neg))∧(∀ j,j<L.length→w'.cell? ⟨pk,j * 3+1,none⟩=some (.string (f j).1.cls))∧∀ j,j<L.length→w'.cell? ⟨pk,j * 3+2,none⟩=some (f j).2)) (by kernel_rfl) ?_ (fun hHeld=>?_)
   ·(try dsimp only)
    (first | with_reducible exact PS6.out | with_reducible exact PatS.alloc PS5.out _ | with_reducible exact PS5.out | with_reducible exact PS4.out | with_reducible exact PSd.out)
   refine tk 0 hHeld ?_
   (try simp only [pA,pZ,pS])
   refine tk 1 hHeld ?_
   (try simp only [pA,pZ,pS])
   refine tk 2 hHeld ?_
   (try simp only [pA,pZ,pS])
   refine tk 3 hHeld ?_
   (try simp only [pA,pZ,pS])
   refine tk 4 hHeld ?_
   (try simp only [pA,pZ,pS])
   refine tk 5 hHeld ?_
   (try simp only [pA,pZ,pS])
   refine tk 8 hHeld ?_
   (try simp only [pA,pZ,pS])
   refine tk 9 hHeld ?_
   (try simp only [pA,pZ,pS])
   refine tk 10 hHeld ?_
   (try simp only [pA,pZ,pS])
   refine tk 14 hHeld ?_
   (try simp only [pA,pZ,pS])
   refine wpAnyH_ready (rs:=[6]) (by kernel_rfl) (by simp) ?_
   refine AllReadyH.cons (o:=?o1) ?ho1 (fun K hK=>?step1) AllReadyH.nil
   case ho1=>(simp only [List.getElem?_toArray,List.getElem?_cons_succ,List.getElem?_cons_zero];rfl)
   go_simp
   (go_at_call 49;refine (zbb g _ HRD.out).mono ?_;rintro e w4 ⟨n3,hn3,rfl,hr4⟩;have R4:=hidR ((R3.out.bel (Below.refl _ _).drew).trans hr4);have hs4:=hr4.1.rest.size;(try simp at hs4);have q4:=zg1 hr4 q3d (by omega);obtain ⟨ip,hip⟩:∃ ip,ip=(j+n3) % L.length:=⟨_,rfl⟩;have hipL:ip<L.length:=(by rw [hip];exact Nat.mod_lt _ (by omega));have hipe:((j:Int)+(n3:Int)) % (L.length:Int)=(ip:Int):=(by rw [hip];push_cast;rfl);have hipt:((j:Int)+(n3:Int)).tmod (L.length:Int)=(ip:Int):=(by rw [hip];rw [← Int.natCast_add];first | exact (Int.ofNat_tmod _ _).symm | rfl);have hwr:IntKind.i64.wrap ((j:Int)+(n3:Int))=(j:Int)+(n3:Int):=(by rw [IntKind.wrap_i64];omega);have hipI:(ip:Int)<(L.length:Int):=(by omega);have hip0:(0:Int)≤(ip:Int):=(by omega);have Q4:=hidR (zaC hr4 Q3b.out (by omega));have PO4:=hidR (POd.out.rsT hr4 HRD.out);have FO4:=hidR (FOd.out.rs hr4 hgw);have PS4:=hidR (PatS.of q4 PO4.out HF.out);have PY:=hidR (PO4.out.2 (f ip) (List.mem_of_getElem? (HF.out ip hipL)));clear hr4 hip q4)
   (try go_wp2_with fail)
   refine hK.out _ _ ?hS2 (fun hHeld'=>?rest2)
   case hS2=>((try dsimp only);(first | with_reducible exact PS6.out | with_reducible exact PatS.alloc PS5.out _ | with_reducible exact PS5.out | with_reducible exact PS4.out | with_reducible exact PSd.out))
   clear hK K
   (first | simp only [pA,pZ,pS] | simp only [pN] | skip)
   clear hHeld
   have hHeld:=hHeld'
   clear hHeld'
   refine tk 7 hHeld ?_
   (try simp only [pA,pZ,pS])
   refine tk 11 hHeld ?_
   (try simp only [pA,pZ,pS])
   refine tk 12 hHeld ?_
   (try simp only [pA,pZ,pS])
   refine tk 13 hHeld ?_
   (try simp only [pA,pZ,pS])
   refine wpAnyH_ready (rs:=[15]) (by kernel_rfl) (by simp) ?_
   refine AllReadyH.cons (o:=?o3) ?ho3 (fun K hK=>?step3) AllReadyH.nil
   case ho3=>(simp only [List.getElem?_toArray,List.getElem?_cons_succ,List.getElem?_cons_zero];rfl)
   go_simp
   (go_at_call 85;refine (zkR g base (f ip) _ w4 R4.out.2 PY.out).mono ?_;rintro e w5 ⟨sa,sc,vs,rfl,hv3,hsown,hvs,hr5⟩;have S5:=hidR hsown;have V5:=hidR hvs;have R5:=hidR ((R4.out).trans hr5);have hs5:=hr5.1.rest.size;(try simp at hs5);have HCL:=hidR PY.out.2.2.1;have FO5:=hidR (FO4.out.rs hr5 hgw);have PS5:=hidR (PatS.of (zg1 hr5 PS4.out.1 (by omega)) (PO4.out.rsT hr5 R4.out.2) HF.out);have HW5:=hidR (fun o=>(Below.refl _ _).alloc (Nat.le_refl _) o:∀ o,Below w5.heap.size w5 (w5.alloc o));have TY:=hidR (fun o k hk=>zai (zag FO5.out.1 (HW5.out o)) (k:=k) hk);have Q5:=hidR (zaC hr5 Q4.out (by omega));have QT5:=hidR (fun o=>(⟨_,((HW5.out o).block _ (zab Q5.out)).trans Q5.out⟩:∃ c,(w5.alloc o).heap[w2.heap.size]?=some (.cells c 35 (0,0))));have PO5:=hidR (PO4.out.rsT hr5 R4.out.2);have PKT:=hidR (fun o=>zai (zag PO5.out.1 (HW5.out o)) (k:=pk) rfl);clear hsown hvs hr5)
   (try go_wp2_with fail)
   refine hK.out _ _ ?hS4 (fun hHeld'=>?rest4)
   case hS4=>((try dsimp only);(first | with_reducible exact PS6.out | with_reducible exact PatS.alloc PS5.out _ | with_reducible exact PS5.out | with_reducible exact PS4.out | with_reducible exact PSd.out))
   clear hK K
   (first | simp only [pA,pZ,pS] | simp only [pN] | skip)
   clear hHeld
   have hHeld:=hHeld'
   clear hHeld'
   refine wpAnyH_ready (rs:=[16]) (by kernel_rfl) (by simp) ?_
   refine AllReadyH.cons (o:=?o5) ?ho5 (fun K hK=>?step5) AllReadyH.nil
   case ho5=>(simp only [List.getElem?_toArray,List.getElem?_cons_succ,List.getElem?_cons_zero];rfl)
   go_simp
   refine hK.out _ _ ?hS6 (fun hHeld'=>?rest6)
   case hS6=>((try dsimp only);(first | with_reducible exact PS6.out | with_reducible exact PatS.alloc PS5.out _ | with_reducible exact PS5.out | with_reducible exact PS4.out | with_reducible exact PSd.out))
   clear hK K
   (first | simp only [pA,pZ,pS] | simp only [pN] | skip)
   clear hHeld
   have hHeld:=hHeld'
   clear hHeld'
   refine wpAnyH_ready (rs:=[17]) (by kernel_rfl) (by simp) ?_
   refine AllReadyH.cons (o:=?o7) ?ho7 (fun K hK=>?step7) AllReadyH.nil
   case ho7=>(simp only [List.getElem?_toArray,List.getElem?_cons_succ,List.getElem?_cons_zero];rfl)
   (refine zao (by rfl) (.tmp 39) (.tmp 55) 24 (by rfl) w.heap.size 42 _ 3 48 Tryz.underlying24 zn7 (by rfl) (by omega) _ Fs.length _ (by rfl) (zag FO5.out.1 (HW5.out _)) (some ⟨_,0,none⟩) 1 1 (by rfl) (fxcells (⟨tag+(1+(n7:Int) % 2),(f ip).1.cls,vs⟩,.slice sa vs.length sc)) (by rfl) (fun e=>by cases e) (zav _ _ _ _ (by simp)) (by intro u hu;simp [fxcells] at hu;rcases hu with rfl | rfl | rfl <;> rfl) (by unfold maxLen;omega) (by omega) (by simp;omega) ?_;intro a9 c9 w9 ho9 hg9 hl9;have PS6:=hidR (PatS.grown (PatS.alloc PS5.out _) hg9.out (TY.out _) (QT5.out _) (PKT.out _)))
   refine hK.out _ _ ?hS8 (fun hHeld'=>?rest8)
   case hS8=>((try dsimp only);(first | with_reducible exact PS6.out | with_reducible exact PatS.alloc PS5.out _ | with_reducible exact PS5.out | with_reducible exact PS4.out | with_reducible exact PSd.out))
   clear hK K
   (first | simp only [pA,pZ,pS] | simp only [pN] | skip)
   clear hHeld
   have hHeld:=hHeld'
   clear hHeld'
   refine tk 18 hHeld ?_
   (try simp only [pA,pZ,pS])
   refine wpAnyH_done (by kernel_rfl) ?_ _
   refine NoPanic.normal ?_
   go_wp2_with fail
   go_roundw
   case rel=>
    have hFx:∀ o,FxP (w5.alloc o) w.heap.size (⟨tag+(1+(n7:Int) % 2),(f ip).1.cls,vs⟩,.slice sa vs.length sc):=fun o=>⟨⟨⟨sa,sc,rfl⟩,zag (zan S5.out (by have:=R4.out.1.rest.size;omega)) (HW5.out o)⟩,HCL.out,hv3,V5.out⟩
    refine ⟨j - 1,a9,c9,Fs ++ [(⟨tag+(1+(n7:Int) % 2),(f ip).1.cls,vs⟩,.slice sa vs.length sc)],tag+(1+(n7:Int) % 2),?_,rfl,by simp,by simp;omega,by simp;have:=HJ.out;omega,FsO.snoc (FO5.out.bel (HW5.out _)) (hFx _) ho9.out hg9.out,(R5.out.bel (HW5.out _)).grown hg9.out (fun k hk=>(FO5.out.1.lt k hk).1) hlt⟩
    rw [show ((j - 1:Nat):Int)=(j:Int) - 1 by omega]
   case measure=>(simp [intOf];omega)
end Go.Proofs.YtmmdlgjmplddiaaGreat
namespace Go.Proofs.YtmmdlgjmplddiaaGreat
open Go.RowKit
attribute [local go_sem ↓] Go.wp_at_zero Go.wp_at_succ
theorem zc9 {a b:Int}{p:Int × Int} (h:p=(a,b)):Ending.returned (.tuple #[.int .i64 a,.int .i64 b])=.returned (.tuple #[.int .i64 p.1,.int .i64 p.2]):=by rw [h]
theorem zdW {α:Type}{f:α→Bool}:∀ {l:List α}{k:Nat},zaB f l k=none→∀ x∈l,f x=true
 | [],_,_,x,hx=>by simp at hx
 | y :: r,k,h,x,hx=>by
  rw [zax] at h
  split at h
  ·rename_i hy
   rcases List.mem_cons.1 hx with rfl | hm
   ·exact hy
   ·exact zdW h x hm
  ·cases h
theorem zgA {S:List Sp}:∀ {l:List Int}{nx n:Nat},zaN S l nx=some n→∀ v∈l,0≤v∧v<(S.length:Int)
 | [],_,_,_,v,hv=>by simp at hv
 | x :: r,nx,n,h,v,hv=>by
  rw [zaW] at h
  split at h
  ·rename_i hc
   simp only [Bool.and_eq_true,decide_eq_true_eq] at hc
   rcases List.mem_cons.1 hv with rfl | hm
   ·exact ⟨hc.1,hc.2.1⟩
   ·exact zgA h v hm
  ·cases h
theorem zfN {S:List Sp}:∀ {l:List Ac}{nx k:Nat},zb1 S l nx k=none→∀ y∈l,∀ v∈y.args,0≤v∧v<(S.length:Int)
 | [],_,_,_,y,hy,_,_=>by simp at hy
 | a :: r,nx,k,h,y,hy,v,hv=>by
  rw [zce] at h
  cases hg:gAc S a nx with
  | none=>rw [hg] at h;cases h
  | some n'=>
   rw [hg] at h
   rcases List.mem_cons.1 hy with rfl | hm
   ·unfold gAc at hg
    split at hg
    ·exact zgA hg v hv
    ·cases hg
   ·exact zfN h y hm v hv
theorem zen {x:Ru} (h:shape x=none):x.pats.length≤6∧x.acts.length≤8∧x.exprs.length≤60∧(∀ p∈x.pats,p.terms.length≤6)∧(zaq [] x.exprs).length=x.exprs.length∧∀ y∈x.acts,∀ v∈y.args,0≤v∧v<(x.exprs.length:Int):=by
 have hh:zco x=true:=by
  cases hc:zco x
  ·simp [shape,hc] at h
  ·rfl
 rw [zg6 x hh] at h
 have hh':=hh
 simp only [zco,Bool.and_eq_true,decide_eq_true_eq] at hh'
 cases hf:zaB gPt x.pats 1 with
 | some i=>rw [hf] at h;cases h
 | none=>
  rw [hf] at h
  have h':rest x=none:=h
  unfold rest at h'
  split at h'
  ·cases h'
  ·rename_i hlt
   have hsp:=(zcv (es:=x.exprs) (l:=x.exprs) (Spans.nil x.exprs) rfl).1.1
   have hfull:(zaq [] x.exprs).length=x.exprs.length:=by omega
   refine ⟨hh'.2.1,hh'.2.2.1,hh'.2.2.2,fun p hp=>?_,hfull,fun y hy v hv=>?_⟩
   ·have:=zdW hf p hp
    simp only [gPt,Bool.and_eq_true,decide_eq_true_eq] at this
    exact this.2.1
   ·have:=zfN h' y hy v hv
    omega
theorem zg0 {w:World}{b o:Nat}{x:Value} (h:w.cell? ⟨b,o,none⟩=some x):b<w.heap.size:=by
 by_cases hp:b<w.heap.size
 ·exact hp
 ·have:w.heap[b]?=none:=Array.getElem?_eq_none (by omega)
  simp [World.cell?,this] at h
theorem zdG {α:Type}{f:α→Bool}:∀ {l:List α}{k i:Nat},zaB f l k=some i→k≤i
 | [],_,_,h=>by cases h
 | x :: r,k,i,h=>by
  rw [zax] at h
  split at h
  ·have:=zdG h
   omega
  ·injection h with h
   omega
theorem zhZ:∀ {l:List Pt}{known:List ByteArray}{k i:Nat},za9 l known k=.inl i→k≤i
 | [],_,_,_,h=>by cases h
 | p :: r,known,k,i,h=>by
  rw [zbO] at h
  split at h
  ·injection h with h
   omega
  ·have:=zhZ h
   omega
theorem zlr {x:Ru}{i:Nat} (h:scope x=some i):1≤i:=by
 rw [zgQ] at h
 split at h
 ·rename_i j hj
  injection h with h
  have:=zhZ hj
  omega
 ·have:=zdG h
  omega
theorem znf {x:Ru}{i:Nat} (h:refs x=some i):1≤i:=by
 have:=zdG h
 omega
set_option maxHeartbeats 3200000 in
theorem zmb (x:Ru) (a_pats:Option Addr) (c_pats:Nat) (a_exprs:Option Addr) (c_exprs:Nat) (a_acts:Option Addr) (c_acts:Nat) (a_e:Option Addr) (c_e:Nat) (pre:List Ru) {q:Option Nat} (w:World) (h_pre:zbR q w a_e pre) (h_pats:zcf q w a_pats x.pats) (h_exprs:zbw q w a_exprs x.exprs) (h_acts:zcO q w a_acts x.acts) (hle:x.le 1048576) (ho:zdF x.exprs) (hcap:x.exprs.length≤c_exprs) (hpl:pre.length≤16) :
  Calls Tryz.prog 66 #[.agg #[.string x.name,.int .i64 x.sal,.slice a_pats x.pats.length c_pats,.slice a_exprs x.exprs.length c_exprs,.slice a_acts x.acts.length c_acts],.slice a_e pre.length c_e] w fun e w'=>
   e=.returned (.tuple #[.int .i64 (chk1 pre x).1,.int .i64 (chk1 pre x).2])∧Below w.heap.size w w':=by
 have hle0:=hle
 obtain ⟨hsn0,hsp,hse,hsa⟩:=hle
 have B0:∀ o,Below w.heap.size w (w.alloc o):=fun o=>(Below.refl _ _).alloc (Nat.le_refl _) _
 have hSH:=zaU (fun w h1 h2 h3=>zls x a_pats c_pats a_exprs c_exprs a_acts c_acts (q:=q) w h1 h2 h3 hle0 ho)
 cases hshape:shape x with
 | some i=>
  rw [hshape] at hSH
  have HC:Hid (chk1 pre x=(1,(i:Int))):=show chk1 pre x=_ from by unfold chk1;rw [hshape]
  go_enter Tryz.func66,Tryz.ntmps66
  go_wp2_with (go_at_call 100;refine (hSH.out _ (h_pats.below (B0 _)) (h_exprs.below (B0 _)) (h_acts.below (B0 _))).mono ?_;rintro e w1 ⟨⟨v,rfl,hv⟩,hb1⟩;obtain rfl:=hv i rfl)
  refine bodyPost_ret (v:=.tuple #[.int .i64 (1),.int .i64 ((i:Int))]) (by simp [results,Tryz.results66,go_sem]) rfl ⟨zc9 HC.out,(B0 _).trans (hb1.mono (by simp))⟩
 | none=>
  rw [hshape] at hSH
  obtain ⟨hp6,ha8,he60,hpt,hfull,hargs⟩:=zen hshape
  go_enter Tryz.func66,Tryz.ntmps66
  go_wp2_with (go_at_call 100;refine (hSH.out _ (h_pats.below (B0 _)) (h_exprs.below (B0 _)) (h_acts.below (B0 _))).mono ?_;rintro e w1 ⟨⟨v,rfl,_⟩,hb1⟩)
  have hB1:Below w.heap.size w w1:=(B0 _).trans (hb1.mono (by simp))
  have hbx:=(zb8.made w 35 x a_pats c_pats a_exprs c_exprs a_acts c_acts).below hb1
  clear hb1
  go_loopw [23] (fun i wr=>∃ (k:Nat),k≤pre.length∧i=.int .i64 k∧pre.any (fun o=>decide (o.name=x.name))=(pre.drop k).any (fun o=>decide (o.name=x.name))∧zb8 wr w.heap.size x a_pats c_pats a_exprs c_exprs a_acts c_acts∧Below w.heap.size w wr) (fun i _=>pre.length - (intOf i).toNat)
  case atStart=>exact ⟨0,by omega,rfl,rfl,hbx,hB1⟩
  case round=>
   clear hB1 hbx
   obtain ⟨k,hk,rfl,hG,hbox,hb⟩:=hrel
   have HG:=zaU hG
   have HBX:=zaU hbox
   clear hG
   by_cases hkl:k<pre.length
   ·obtain ⟨y,hyk⟩:∃ y,pre[k]?=some y:=⟨pre[k],by simp [hkl]⟩
    obtain ⟨b,o,a1,k1,a2,k2,a3,k3,rfl,hq,c0,c1,c2,c3,c4,_,_,_⟩:=(h_pre.below hb).get hyk
    have HD:Hid (pre.drop k=y :: pre.drop (k+1)):=zak hyk
    have hBa:∀ o,Below w.heap.size w (wr.alloc o):=fun o=>hb.alloc hb.size _
    have hBw:∀ o,Below wr.heap.size wr (wr.alloc o):=fun o=>(Below.refl _ _).alloc (Nat.le_refl _) _
    obtain ⟨q0,q1,q2,q3,q4⟩:=hbox
    have hws:w.heap.size<wr.heap.size:=zg0 q0
    have q0':∀ o,(wr.alloc o).cell? ⟨w.heap.size,0,none⟩=some (.string x.name):=fun o=>zaa (hBw o) q0
    clear q1 q2 q3 q4 q0
    cases e1:(y.name.toList==x.name.toList)
    ·have HX:Hid (pre.any (fun o=>decide (o.name=x.name))=(pre.drop (k+1)).any (fun o=>decide (o.name=x.name))):=show _=_ from by
      rw [zaL] at e1
      rw [HG.out,HD.out,List.any_cons,e1]
      rfl
     go_wp2
     go_roundw
     case rel=>exact ⟨k+1,by omega,by go_num,HX.out,HBX.out.below (hBw _),hBa _⟩
     case measure=>simp [intOf];omega
    ·have HX:Hid (chk1 pre x=(2,0)):=show chk1 pre x=_ from by
      rw [zaL] at e1
      unfold chk1
      rw [hshape]
      simp only
      rw [HG.out,HD.out,List.any_cons,e1]
      rfl
     go_wp2
     refine bodyPost_ret (v:=.tuple #[.int .i64 (2),.int .i64 (0)]) (by simp [results,Tryz.results66,go_sem]) rfl ⟨zc9 HX.out,hBa _⟩
   ·have HA:Hid (pre.any (fun o=>decide (o.name=x.name))=false):=show _=_ from by rw [HG.out,List.drop_eq_nil_of_le (by omega)];rfl
    have hpos:positives x.pats≤x.pats.length:=List.countP_le_length
    have hUN:=zaU (fun w h1 h2 h3=>zfY x a_pats c_pats a_exprs c_exprs a_acts c_acts (q:=q) w h1 h2 h3 hle0 hp6 hpt hargs hcap he60)
    have hWR:=zaU (fun w h1 h2=>zhT x a_pats c_pats a_exprs c_exprs a_acts c_acts (q:=q) w h1 h2 hsp.1 hsa.1)
    obtain ⟨q0,q1,q2,q3,q4⟩:=hbox
    by_cases hr:1≤positives x.pats∧positives x.pats≤3
    ·have HC:Hid (chk1 pre x=match scope x with | some i=>(4,(i:Int)) | none=>match refs x with | some i=>(5,(i:Int)) | none=>(0,0)):=show chk1 pre x=_ from by
      unfold chk1
      rw [hshape]
      simp only
      rw [HA.out,if_neg (by decide),if_pos hr]
      cases scope x with
      | some i=>rfl
      | none=>cases refs x <;> rfl
     have r0:¬ (positives x.pats:Int)<1:=by omega
     have r1:¬ (3:Int)<(positives x.pats:Int):=by omega
     cases hsc:scope x with
     | some i=>
      rw [hsc] at hUN HC
      simp only [item0] at hUN
      have hi0:((i:Int) != 0)=true:=by
       have:=zlr hsc
       simp
       omega
      go_wp2_with (first | (go_at_call 61;refine (zbF x a_pats c_pats a_exprs c_exprs a_acts c_acts _ (h_pats.below hb) (by omega)).mono ?_;rintro e w2 ⟨rfl,hb2⟩;obtain ⟨s0,s1,s2,s3,s4⟩:=HBX.out.below hb2) | (go_at_call 101;refine (hUN.out _ (h_pats.below (hb.trans (hb2.mono hb.size))) (h_exprs.below (hb.trans (hb2.mono hb.size))) (h_acts.below (hb.trans (hb2.mono hb.size)))).mono ?_;rintro e w3 ⟨rfl,hb3⟩;obtain ⟨t0,t1,t2,t3,t4⟩:=(HBX.out.below hb2).below hb3) | fail)
      refine bodyPost_ret (v:=.tuple #[.int .i64 (4),.int .i64 ((i:Int))]) (by simp [results,Tryz.results66,go_sem]) rfl ⟨zc9 HC.out,((hb.trans (hb2.mono hb.size)).trans (hb3.mono (hb.trans (hb2.mono hb.size)).size))⟩
     | none=>
      rw [hsc] at hUN HC
      simp only [item0] at hUN
      cases hrf:refs x with
      | some i=>
       rw [hrf] at hWR HC
       simp only [item0] at hWR
       have hi0:((i:Int) != 0)=true:=by
        have:=znf hrf
        simp
        omega
       go_wp2_with (first | (go_at_call 61;refine (zbF x a_pats c_pats a_exprs c_exprs a_acts c_acts _ (h_pats.below hb) (by omega)).mono ?_;rintro e w2 ⟨rfl,hb2⟩;obtain ⟨s0,s1,s2,s3,s4⟩:=HBX.out.below hb2) | (go_at_call 101;refine (hUN.out _ (h_pats.below (hb.trans (hb2.mono hb.size))) (h_exprs.below (hb.trans (hb2.mono hb.size))) (h_acts.below (hb.trans (hb2.mono hb.size)))).mono ?_;rintro e w3 ⟨rfl,hb3⟩;obtain ⟨t0,t1,t2,t3,t4⟩:=(HBX.out.below hb2).below hb3) | (go_at_call 102;refine (hWR.out _ (h_pats.below ((hb.trans (hb2.mono hb.size)).trans (hb3.mono (hb.trans (hb2.mono hb.size)).size))) (h_acts.below ((hb.trans (hb2.mono hb.size)).trans (hb3.mono (hb.trans (hb2.mono hb.size)).size)))).mono ?_;rintro e w4 ⟨rfl,hb4⟩) | fail)
       refine bodyPost_ret (v:=.tuple #[.int .i64 (5),.int .i64 ((i:Int))]) (by simp [results,Tryz.results66,go_sem]) rfl ⟨zc9 HC.out,(((hb.trans (hb2.mono hb.size)).trans (hb3.mono (hb.trans (hb2.mono hb.size)).size)).trans (hb4.mono ((hb.trans (hb2.mono hb.size)).trans (hb3.mono (hb.trans (hb2.mono hb.size)).size)).size))⟩
      | none=>
       rw [hrf] at hWR HC
       simp only [item0] at hWR
       go_wp2_with (first | (go_at_call 61;refine (zbF x a_pats c_pats a_exprs c_exprs a_acts c_acts _ (h_pats.below hb) (by omega)).mono ?_;rintro e w2 ⟨rfl,hb2⟩;obtain ⟨s0,s1,s2,s3,s4⟩:=HBX.out.below hb2) | (go_at_call 101;refine (hUN.out _ (h_pats.below (hb.trans (hb2.mono hb.size))) (h_exprs.below (hb.trans (hb2.mono hb.size))) (h_acts.below (hb.trans (hb2.mono hb.size)))).mono ?_;rintro e w3 ⟨rfl,hb3⟩;obtain ⟨t0,t1,t2,t3,t4⟩:=(HBX.out.below hb2).below hb3) | (go_at_call 102;refine (hWR.out _ (h_pats.below ((hb.trans (hb2.mono hb.size)).trans (hb3.mono (hb.trans (hb2.mono hb.size)).size))) (h_acts.below ((hb.trans (hb2.mono hb.size)).trans (hb3.mono (hb.trans (hb2.mono hb.size)).size)))).mono ?_;rintro e w4 ⟨rfl,hb4⟩) | fail)
       refine bodyPost_ret (v:=.tuple #[.int .i64 (0),.int .i64 (0)]) (by simp [results,Tryz.results66,go_sem]) rfl ⟨zc9 HC.out,(((hb.trans (hb2.mono hb.size)).trans (hb3.mono (hb.trans (hb2.mono hb.size)).size)).trans (hb4.mono ((hb.trans (hb2.mono hb.size)).trans (hb3.mono (hb.trans (hb2.mono hb.size)).size)).size))⟩
    ·have HC:Hid (chk1 pre x=(3,0)):=show chk1 pre x=_ from by
      unfold chk1
      rw [hshape]
      simp only
      rw [HA.out,if_neg (by decide),if_neg hr]
     by_cases r0:(positives x.pats:Int)<1
     ·go_wp2_with (first | (go_at_call 61;refine (zbF x a_pats c_pats a_exprs c_exprs a_acts c_acts _ (h_pats.below hb) (by omega)).mono ?_;rintro e w2 ⟨rfl,hb2⟩;obtain ⟨s0,s1,s2,s3,s4⟩:=HBX.out.below hb2) | fail)
      refine bodyPost_ret (v:=.tuple #[.int .i64 (3),.int .i64 (0)]) (by simp [results,Tryz.results66,go_sem]) rfl ⟨zc9 HC.out,(hb.trans (hb2.mono hb.size))⟩
     ·have r1:(3:Int)<(positives x.pats:Int):=by omega
      go_wp2_with (first | (go_at_call 61;refine (zbF x a_pats c_pats a_exprs c_exprs a_acts c_acts _ (h_pats.below hb) (by omega)).mono ?_;rintro e w2 ⟨rfl,hb2⟩;obtain ⟨s0,s1,s2,s3,s4⟩:=HBX.out.below hb2) | fail)
      refine bodyPost_ret (v:=.tuple #[.int .i64 (3),.int .i64 (0)]) (by simp [results,Tryz.results66,go_sem]) rfl ⟨zc9 HC.out,(hb.trans (hb2.mono hb.size))⟩
end Go.Proofs.YtmmdlgjmplddiaaGreat
namespace Go.Proofs.YtmmdlgjmplddiaaGreat
open Go.RowKit
theorem zcK.owns {w:World}{base n:Nat}{a:Option Addr}{c:Nat}{xs:List ByteArray} (h:w.ownsRow base 9 1 (.slice a n c) n (xs.map Value.string)):zcK none w a xs:=by
 intro i s hs
 have k0:(xs.map Value.string)[i]?=some (.string s):=by simp [hs]
 obtain ⟨g,rfl,_,h0,_⟩:=zam h k0
 refine ⟨g,0,[.string s],rfl,Qb.bare _ _ _,rfl,?_,rfl⟩
 intro j v hj
 have hj0:j=0:=by
  have:=(List.getElem?_eq_some_iff.1 hj).1
  simp at this
  exact this
 subst hj0
 simp at hj
 subst hj
 simpa using h0
theorem zmm {w:World}{base n:Nat}{a:Option Addr}{c:Nat}{xs:List ByteArray} (h:w.ownsRow base 9 1 (.slice a n c) n (xs.map Value.string)) (ha:a=none):xs.length=0:=by
 cases xs with
 | nil=>rfl
 | cons x r=>
  obtain ⟨g,hg,_⟩:=zam h (j:=0) (x:=.string x) (by simp)
  rw [ha] at hg
  cases hg
theorem zkZ:(Tryz.prog.info? 9).map (fun i=>(i.zero,i.size,i.bytes))=some (some (.string ByteArray.empty),1,16):=by kernel_rfl
theorem zny (xs:List ByteArray):∀ u∈xs.map Value.string,u.oneCell'=true:=by
 intro u hu
 obtain ⟨s,_,rfl⟩:=List.mem_map.1 hu
 rfl
theorem zlm {w:World}{q:Option Nat}{a:Option Addr}{xs:List ByteArray} (h:zcK q w a xs):∀ ad,a=some ad→∀ (j:Nat) u,(xs.map Value.string)[j]?=some u→w.cell? (ad.add j)=some u:=by
 intro ad hd j u hu
 rw [List.getElem?_map] at hu
 cases hx:xs[j]? with
 | none=>rw [hx] at hu;cases hu
 | some s=>
  rw [hx] at hu
  simp at hu
  subst hu
  obtain ⟨b,o,rfl,_,hc⟩:=h.get hx
  cases hd
  rw [Addr.add_mid]
  exact hc
theorem zkw {x:Ru} (h:shape x=none):zb1 (zaq [] x.exprs) x.acts 0 1=none:=by
 unfold shape at h
 split at h
 ·split at h
  ·cases h
  ·split at h
   ·cases h
   ·exact h
 ·cases h
theorem znr {S:List Sp}{y:Ac}{nx n:Nat} (h:gAc S y nx=some n):zaN S y.args nx=some n:=by
 unfold gAc at h
 split at h
 ·exact h
 ·cases h
theorem zei {S:List Sp}{x:Int}{r:List Int}{nx n:Nat} (h:zaN S (x :: r) nx=some n):∃ (x0:Nat) (s0:Sp),x=(x0:Int)∧S[x0]?=some s0∧s0.1=nx∧zaN S r (x0+1)=some n:=by
 rw [zaW] at h
 split at h
 ·rename_i hc
  simp only [Bool.and_eq_true,decide_eq_true_eq] at hc
  obtain ⟨h0,h1,h2⟩:=hc
  obtain ⟨x0,rfl⟩:=Int.eq_ofNat_of_zero_le h0
  have hx:x0<S.length:=by omega
  refine ⟨x0,S[x0],rfl,by simp,?_,h⟩
  simpa [hx] using h2
 ·cases h
theorem zhW {es:List Ex}{S:List Sp} (hS:Spans es S):∀ {l:List Int}{nx n:Nat},zaN S l nx=some n→nx≤n
 | [],nx,n,h=>by
  have:some nx=some n:=h
  injection this with this
  omega
 | x :: r,nx,n,h=>by
  obtain ⟨x0,s0,rfl,hs,rfl,hr⟩:=zei h
  have h1:=zhW hS hr
  have h2:=hS.first_le x0 s0 hs
  omega
theorem zfP {S:List Sp}:∀ {l:List Int}{nx n:Nat},l≠[]→zaN S l nx=some n→∃ xl:Nat,l.getLast?=some (xl:Int)∧n=xl+1∧xl<S.length
 | [],_,_,h,_=>absurd rfl h
 | x :: r,nx,n,_,h=>by
  obtain ⟨x0,s0,rfl,hs,rfl,hr⟩:=zei h
  cases r with
  | nil=>
   have:some (x0+1)=some n:=hr
   injection this with this
   exact ⟨x0,rfl,this.symm,(List.getElem?_eq_some_iff.1 hs).1⟩
  | cons y r'=>
   obtain ⟨xl,h1,h2,h3⟩:=zfP (l:=y :: r') (by simp) hr
   exact ⟨xl,by simpa using h1,h2,h3⟩
theorem zh9 {α:Type}{f:α→Bool}{l:List α}{j:Nat}{x:α} (h:l[j]?=some x):(l.take (j+1)).all f=((l.take j).all f && f x):=by
 rw [List.take_add_one,h]
 simp
theorem zgb {α:Type}{f:α→Bool}{l:List α}{j m:Nat}{x:α} (h:l[j]?=some x) (hj:j<m) (hf:f x=false):(l.take m).all f=false:=by
 rw [List.all_eq_false]
 refine ⟨x,?_,by simp [hf]⟩
 have:(l.take m)[j]?=some x:=by rw [List.getElem?_take,if_pos hj,h]
 exact List.mem_of_getElem? this
theorem ziJ {es:List Ex}{known:List ByteArray}{y:Ac}{xl:Nat} (h:y.args.getLast?=some (xl:Int)):zbU es known y=(es.take (xl+1)).all (za8 known):=by
 have h1:y.args.isEmpty=false:=by
  cases hy:y.args with
  | nil=>rw [hy] at h;cases h
  | cons v r=>rfl
 have h2:upTo y=xl+1:=by
  unfold upTo
  rw [h]
  rfl
 unfold zbU
 rw [h1,h2]
 rfl
def zml:Option Nat→Int
 | none=>-1
 | some i=>(i:Int)
end Go.Proofs.YtmmdlgjmplddiaaGreat
namespace Go.Proofs.YtmmdlgjmplddiaaGreat
open Go.RowKit
attribute [local go_sem ↓] Go.wp_at_zero Go.wp_at_succ
end Go.Proofs.YtmmdlgjmplddiaaGreat
namespace Go.Proofs.YtmmdlgjmplddiaaGreat
open Go.RowKit
attribute [local go_sem ↓] Go.wp_at_zero Go.wp_at_succ
set_option maxHeartbeats 3200000 in
theorem ziL (x:Ru) (a_pats:Option Addr) (c_pats:Nat) (a_exprs:Option Addr) (c_exprs:Nat) (a_acts:Option Addr) (c_acts:Nat) {q:Option Nat} (w:World) (h_pats:zcf q w a_pats x.pats) (h_exprs:zbw q w a_exprs x.exprs) (h_acts:zcO q w a_acts x.acts) (hle:x.le 1048576) (hsh:shape x=none) :
  Calls Tryz.prog 118 #[.agg #[.string x.name,.int .i64 x.sal,.slice a_pats x.pats.length c_pats,.slice a_exprs x.exprs.length c_exprs,.slice a_acts x.acts.length c_acts]] w fun e w'=>e=.returned (.int .i64 (zml (scope x)))∧Below w.heap.size w w':=by
 obtain ⟨hsn0,hsp,hse,hsa⟩:=hle
 obtain ⟨hp6,ha8,he60,hpt,hfull,hargs⟩:=zen hsh
 obtain ⟨SS,hSS⟩:∃ S,S=zaq [] x.exprs:=⟨_,rfl⟩
 have hSp:Spans x.exprs SS:=by rw [hSS];exact (zcv (Spans.nil _) rfl).1
 have hAG:zb1 SS x.acts 0 1=none:=by rw [hSS];exact zkw hsh
 rw [← hSS] at hfull
 have HSP:=zaU hSp
 have HAG:=zaU hAG
 have HFL:=zaU hfull
 have HAR:=zaU hargs
 have HPT:=zaU hpt
 have HSE:=zaU hse
 have HSA:=zaU hsa
 have HSPP:=zaU hsp
 clear hSS hSp hAG hfull hargs hpt hsh hse hsa hsp
 obtain ⟨HH⟩:Nonempty (Hid (scope x=match za9 x.pats [] 1 with | .inl i=>some i | .inr known=>zdA x known)):=⟨zgQ x⟩
 have B0:∀ o,Below w.heap.size w (w.alloc o):=fun o=>(Below.refl _ _).alloc (Nat.le_refl _) _
 go_enter Tryz.func118,Tryz.ntmps118
 go_wp2
 go_loopw [3,16] (fun kv i wr=>∃ (k:Nat) (known:List ByteArray) (a:Option Addr) (c:Nat),k≤x.pats.length∧i=.int .i64 k∧kv=.slice a known.length c∧za9 x.pats [] 1=za9 (x.pats.drop k) known (k+1)∧known.length≤6 * k∧(a=none→known.length=0)∧zcK none wr a known∧zb8 wr w.heap.size x a_pats c_pats a_exprs c_exprs a_acts c_acts∧Below w.heap.size w wr) (fun _ i _=>x.pats.length - (intOf i).toNat)
 case atStart=>exact ⟨0,[],none,0,by omega,rfl,rfl,rfl,by simp,fun _=>rfl,zaD.nil,zb8.made _ _ _ _ _ _ _ _ _,B0 _⟩
 case round=>
  obtain ⟨k,known,a,c,hk,rfl,rfl,hG,hkn,hnil,hst,hbox,hb⟩:=hrel
  have HG:=zaU hG
  have HBX:=zaU hbox
  have HST:=zaU hst
  have HNIL:=zaU hnil
  clear hG hst hnil
  have hwl:w.heap.size<wr.heap.size:=zg0 hbox.1
  by_cases hkl:k<x.pats.length
  ·obtain ⟨p,hpk⟩:∃ p,x.pats[k]?=some p:=⟨x.pats[k],by simp [hkl]⟩
   obtain ⟨b,o,a_terms,c_terms,rfl,hq,c0,c1,c2,h_terms⟩:=(h_pats.below hb).get hpk
   have hpp:=HSPP.out.2 p (List.mem_of_getElem? hpk)
   have hp6':=HPT.out p (List.mem_of_getElem? hpk)
   have HD:Hid (x.pats.drop k=p :: x.pats.drop (k+1)):=zak hpk
   have HTM:=zaU h_terms
   obtain ⟨wo,rfl⟩:∃ u,u=wr:=⟨wr,rfl⟩
   have B1:∀ o,Below wo.heap.size wo (wo.alloc o):=fun o=>(Below.refl _ _).alloc (Nat.le_refl _) _
   clear hbox h_terms
   go_wp2_with (at_builtin;refine zad (by rfl) (.tmp 21) (.tmp 22) 202 (by rfl) (wo.heap.size+1) 9 _ 1 16 Tryz.underlying202 zkZ (by rfl) (by omega) _ 0 [] (by rfl) (World.ownsRow_nil _ _ _ _) a known.length c (by rfl) (known.map Value.string) (by simp) HNIL.out (zlm (HST.out.below (B1 _))) (zny known) (by unfold maxLen;omega) (by omega) (by simp) ?_;intro a2 c2' w2 ho2 hg2 hl2;have hW2:Below (wo.heap.size+1) (wo.alloc (.cells #[.bool p.neg,.string p.cls,.slice a_terms p.terms.length c_terms] 38)) w2:=((Below.refl _ _).grown hg2.out (by simp) (fun j hj=>by cases hj));have d2:w2.cell? ⟨wo.heap.size,2,none⟩=some (.slice a_terms p.terms.length c_terms):=(hW2.cell (p:=⟨wo.heap.size,2,none⟩) (by simp)).trans (by simp [go_sem]))
   have ho2':w2.ownsRow (wo.heap.size+1) 9 1 (.slice a2 known.length c2') known.length (known.map Value.string):=by
    have:=ho2.out
    simpa using this
   clear ho2 hg2 hl2 d2 c0 c1 c2 hq
   go_loopw [6,27] (fun hv i wr'=>∃ (j:Nat) (here:List ByteArray) (a':Option Addr) (c':Nat),j≤p.terms.length∧i=.int .i64 j∧hv=.slice a' here.length c'∧zap p.terms known=zap (p.terms.drop j) here∧here.length≤6 * k+j∧wr'.ownsRow (wo.heap.size+1) 9 1 (.slice a' here.length c') here.length (here.map Value.string)∧Below (wo.heap.size+1) (wo.alloc (.cells #[.bool p.neg,.string p.cls,.slice a_terms p.terms.length c_terms] 38)) wr') (fun _ i _=>p.terms.length - (intOf i).toNat)
   case atStart=>exact ⟨0,known,a2,c2',by omega,rfl,by simp,rfl,by omega,ho2',hW2⟩
   case round=>
    clear ho2' hW2
    obtain ⟨j,here,a',c',hj,rfl,rfl,hT,hhl,hown,hbW⟩:=hrel
    have HT:=zaU hT
    have HO:=zaU hown
    clear hT hown
    have hBo:Below wo.heap.size wo wr:=(B1 _).trans (hbW.mono (by omega))
    have hBw:Below w.heap.size w wr:=hb.trans (hBo.mono hb.size)
    have hsz:=hbW.size
    have A1:∀ o,Below (wo.heap.size+1) (wo.alloc (.cells #[.bool p.neg,.string p.cls,.slice a_terms p.terms.length c_terms] 38)) (wr.alloc o):=fun o=>hbW.alloc (by simp at hsz;omega) _
    by_cases hjl:j<p.terms.length
    ·obtain ⟨t,htk⟩:∃ t,p.terms[j]?=some t:=⟨p.terms[j],by simp [hjl]⟩
     obtain ⟨b',o',ea,hq,c0,c1,c2,c3,c4,c5⟩:=(HTM.out.below hBo).get htk
     subst ea
     have HDT:Hid (p.terms.drop j=t :: p.terms.drop (j+1)):=zak htk
     have AW:∀ o,Below w.heap.size w (wr.alloc o):=fun o=>hBw.alloc hBw.size _
     have R1:∀ o,Below wr.heap.size wr (wr.alloc o):=fun o=>(Below.refl _ _).alloc (Nat.le_refl _) _
     by_cases k2:t.kind=2
     ·have HN:Hid (zap p.terms known=zap (p.terms.drop (j+1)) (here ++ [t.var])):=show zap p.terms known=_ from by rw [HT.out,HDT.out,zaX];simp [asks,k2]
      rw [k2] at c0
      go_wp2_with (at_builtin;refine zad (by rfl) (.tmp 51) (.tmp 54) 202 (by rfl) (wo.heap.size+1) 9 _ 1 16 Tryz.underlying202 zkZ (by rfl) (by omega) _ here.length _ (by rfl) ((HO.out.alloc _).alloc _) (some ⟨wr.heap.size+1,0,none⟩) 1 1 (by rfl) [.string t.var] (by rfl) (fun e=>by cases e) (zfz _ _ _ _ (by simp)) (by simp [Value.oneCell']) (by unfold maxLen;omega) (by omega) (by simp at hsz ⊢;omega) ?_;intro a3 c3' w3 ho3 hg3 hl3)
      have hW3:=(((A1 _).alloc (by simp at hsz;simp;omega) _).grown hg3.out (by simp at hsz;simp;omega) (fun g hg=>(HO.out.lt g hg).1))
      have ho3':w3.ownsRow (wo.heap.size+1) 9 1 (.slice a3 (here ++ [t.var]).length c3') (here ++ [t.var]).length ((here ++ [t.var]).map Value.string):=by
       have:=ho3.out
       simpa using this
      go_roundw
      case rel=>exact ⟨j+1,here ++ [t.var],a3,c3',by omega,by go_num,by simp,HN.out,by simp;omega,ho3',hW3⟩
      case measure=>simp [intOf];omega
     ·by_cases k3:t.kind=3∧t.var.toList.isEmpty=false
      ·obtain ⟨k3,v0⟩:=k3
       rw [k3] at c0
       have hI:=zaU (fun w' h=>zg4 t.var a' c' here w' (q:=none) h (by omega))
       cases hm:memB t.var here
       all_goals
        rw [hm] at hI
        go_wp2_with (go_at_call 145;refine (hI.out _ ((zcK.owns HO.out).below (R1 _))).mono ?_;rintro e' w1 ⟨rfl,rfl⟩)
       ·have HX:Hid (scope x=some (k+1)):=show scope x=_ from by
         have hz:zap p.terms known=none:=by
          rw [HT.out,HDT.out,zaX]
          simp [asks,k3,isE,hm]
          intro h
          simp [h] at v0
         rw [HH.out,HG.out,HD.out,zbO,hz]
        go_ret
        exact ⟨zbk (by rw [HX.out];simp [zml]),AW _⟩
       ·have HN:Hid (zap p.terms known=zap (p.terms.drop (j+1)) here):=show zap p.terms known=_ from by rw [HT.out,HDT.out,zaX];simp [k3,hm]
        go_roundw
        case rel=>exact ⟨j+1,here,a',c',by omega,by go_num,rfl,HN.out,by omega,HO.out.alloc _,A1 _⟩
        case measure=>simp [intOf];omega
      ·have HN:Hid (zap p.terms known=zap (p.terms.drop (j+1)) here):=show zap p.terms known=_ from by
        have ha:asks t=false:=by
         unfold asks isE
         by_cases h3:t.kind=3
         ·have:t.var.toList.isEmpty=true:=by cases h:t.var.toList.isEmpty <;> simp_all
          simp [this]
         ·simp [h3]
        rw [HT.out,HDT.out,zaX,ha]
        simp [k2]
       by_cases h3:t.kind=3
       ·have hve:t.var.toList.isEmpty=true:=by cases h:t.var.toList.isEmpty <;> simp_all
        clear k3
        rw [h3] at c0
        go_wp2
        go_roundw
        case rel=>exact ⟨j+1,here,a',c',by omega,by go_num,rfl,HN.out,by omega,HO.out.alloc _,A1 _⟩
        case measure=>simp [intOf];omega
       ·clear k3
        go_wp2
        go_roundw
        case rel=>exact ⟨j+1,here,a',c',by omega,by go_num,rfl,HN.out,by omega,HO.out.alloc _,A1 _⟩
        case measure=>simp [intOf];omega
    ·have HN:Hid (zap p.terms known=some here):=show zap p.terms known=_ from by
      rw [HT.out,List.drop_eq_nil_of_le (by omega)]
      rfl
     have d0:wr.cell? ⟨wo.heap.size,0,none⟩=some (.bool p.neg):=(hbW.cell (p:=⟨wo.heap.size,0,none⟩) (by simp)).trans (by simp [go_sem])
     have hbx:zb8 wr w.heap.size x (some ⟨b,o,none⟩) c_pats a_exprs c_exprs a_acts c_acts:=(HBX.out.below (B1 _)).belowB hbW (by omega)
     cases hn':p.neg
     all_goals
      rw [hn'] at d0
      have HM:Hid (za9 x.pats [] 1=za9 (x.pats.drop (k+1)) (if p.neg then known else here) (k+1+1)):=show za9 x.pats [] 1=_ from by rw [HG.out,HD.out,zbO,HN.out]
      rw [hn'] at HM
      go_wp2
     ·go_roundw
      case rel=>exact ⟨k+1,here,a',c',by omega,by go_num,rfl,HM.out,by omega,zmm HO.out,zcK.owns HO.out,hbx,hBw⟩
      case measure=>simp [intOf];omega
     ·go_roundw
      case rel=>exact ⟨k+1,known,a,c,by omega,by go_num,rfl,HM.out,by omega,HNIL.out,HST.out.below hBo,hbx,hBw⟩
      case measure=>simp [intOf];omega
  ·have hkn36:known.length≤36:=by omega
   have HN:Hid (scope x=zdA x known):=show scope x=_ from by rw [HH.out,HG.out,List.drop_eq_nil_of_le (by omega)];rfl
   obtain ⟨q0,q1,q2,q3,q4⟩:=hbox
   go_wp2
   clear q0 q1 q2 q3 q4
   go_loopw [65] (fun i wr'=>∃ (k nx:Nat),k≤x.acts.length∧i=.int .i64 k∧zdA x known=zaB (zbU x.exprs known) (x.acts.drop k) (x.pats.length+1+k)∧zb1 SS (x.acts.drop k) nx (k+1)=none∧(x.exprs.take nx).all (za8 known)=true∧zcK none wr' a known∧zb8 wr' w.heap.size x a_pats c_pats a_exprs c_exprs a_acts c_acts∧Below w.heap.size w wr') (fun i _=>x.acts.length - (intOf i).toNat)
   case atStart=>exact ⟨0,0,by omega,rfl,rfl,HAG.out,by simp,HST.out,HBX.out,hb⟩
   case round=>
    clear HG HBX HST hb hk hwl HAG
    obtain ⟨k,nx,hk,rfl,hG,hAG,hall,hst,hbox,hb⟩:=hrel
    have HG:=zaU hG
    have HAG:=zaU hAG
    have HALL:=zaU hall
    have HST:=zaU hst
    have HBX:=zaU hbox
    have hwl:w.heap.size<wr.heap.size:=zg0 hbox.1
    clear hG hAG hall hst
    by_cases hkl2:k<x.acts.length
    ·obtain ⟨y,hyk⟩:∃ y,x.acts[k]?=some y:=⟨x.acts[k],by simp [hkl2]⟩
     obtain ⟨b,o,a_args,c_args,rfl,hq,c0,c1,c2,c3,h_args⟩:=(h_acts.below hb).get hyk
     have hyl:=(HSA.out.2 y (List.mem_of_getElem? hyk)).2
     have HD:Hid (x.acts.drop k=y :: x.acts.drop (k+1)):=zak hyk
     have R1:∀ o,Below wr.heap.size wr (wr.alloc o):=fun o=>(Below.refl _ _).alloc (Nat.le_refl _) _
     have AW:∀ o,Below w.heap.size w (wr.alloc o):=fun o=>hb.alloc hb.size _
     obtain ⟨nx',hga,hAG'⟩:∃ n,gAc SS y nx=some n∧zb1 SS (x.acts.drop (k+1)) n (k+1+1)=none:=by
      have h:=HAG.out
      rw [HD.out,zce] at h
      cases hg:gAc SS y nx with
      | none=>rw [hg] at h;cases h
      | some n=>rw [hg] at h;exact ⟨n,rfl,h⟩
     have hag:=znr hga
     have HAG2:=zaU hAG'
     clear hAG' hga
     by_cases hne:y.args=[]
     ·have hnx:nx'=nx:=by
       rw [hne] at hag
       have:some nx=some nx':=hag
       injection this with this
       exact this.symm
      subst hnx
      have HX:Hid (zdA x known=zaB (zbU x.exprs known) (x.acts.drop (k+1)) (x.pats.length+1+(k+1))):=show zdA x known=_ from by
       rw [HG.out,HD.out,zax,show zbU x.exprs known y=true by simp [zbU,hne]]
       rfl
      have hl0:y.args.length=0:=by simp [hne]
      rw [hl0] at c3
      clear hne hag hl0 hbox
      go_wp2
      go_roundw
      case rel=>exact ⟨k+1,nx',by omega,by go_num,HX.out,HAG2.out,HALL.out,HST.out.below (R1 _),HBX.out.below (R1 _),AW _⟩
      case measure=>simp [intOf];omega
     ·obtain ⟨xl,hxl,hnx',hxs⟩:=zfP hne hag
      have hle2:=zhW HSP.out hag
      obtain ⟨ln,hln⟩:∃ ln,y.args.length=ln+1:=⟨y.args.length - 1,by have:=List.length_pos_iff.2 hne;omega⟩
      have hlast:y.args[ln]?=some (xl:Int):=by
       rw [List.getLast?_eq_getElem?,hln,Nat.add_sub_cancel] at hxl
       exact hxl
      obtain ⟨x0,s0,hx0,hs0,hs01⟩:∃ (x0:Nat) (s0:Sp),y.args[0]?=some (x0:Int)∧SS[x0]?=some s0∧s0.1=nx:=by
       cases hy:y.args with
       | nil=>exact absurd hy hne
       | cons v r=>
        rw [hy] at hag
        obtain ⟨x0,s0,rfl,h1,h2,_⟩:=zei hag
        exact ⟨x0,s0,by simp,h1,h2⟩
      have HAV:Hid (zbU x.exprs known y=(x.exprs.take (xl+1)).all (za8 known)):=ziJ hxl
      obtain ⟨ba,oa,ea,_,g0⟩:=h_args.get hx0
      subst ea
      obtain ⟨ba2,oa2,ea2,_,gl⟩:=h_args.get hlast
      cases ea2
      have hfl:=HFL.out
      rw [hln] at c3
      have z0:(0:Int)<(ln:Int)+1:=by omega
      have z1:¬ (ln:Int)+1=0:=by omega
      have z2:(0:Int)<((ln+1:Nat):Int):=by omega
      have z3:(((ln+1:Nat):Int)==0)=false:=by simp;omega
      have z4:(((ln:Int)+1)==0)=false:=by simp;omega
      have g0':=fun o=>zaa (R1 o) g0
      have q3':=fun o=>zaa (R1 o) hbox.2.2.2.1
      have HEX:=zaU (fun o=>(h_exprs.below (AW o)))
      clear hbox hne hag hxl hq
      simp only [Nat.add_zero] at g0 g0'
      go_wp2
      have HHA:=zaU (h_args)
      have HGL:=zaU gl
      clear z1 z3 z4 gl hx0 hlast g0 c0 c1 c2 c3 h_args
      have hz:=fun n=>zca a_exprs c_exprs x.exprs SS x0 s0 ((wr.alloc (.cells #[.int .i64 y.kind,.int .i64 y.k,.string y.cls,.slice (some ⟨ba,oa,none⟩) (ln+1) c_args] 200)).drewN n) ((HEX.out _).below (zaM (Below.refl _ _))) HSP.out hs0
      have HZ:=zaU hz
      clear hz
      go_quiet (first | (go_at_call 146;refine Calls.quiet_of_same (HZ.out _)))
      rw [hs01]
      clear g0' q3' HEX hs01 hs0 HZ z0 z2
      go_wp2
      obtain ⟨wa,rfl⟩:∃ u,u=wr:=⟨wr,rfl⟩
      go_loopw [11] (fun kv wr2=>∃ (j:Nat),nx≤j∧j≤xl+1∧kv=.int .i64 (j:Int)∧(x.exprs.take j).all (za8 known)=true∧wr2.cell? ⟨wa.heap.size,3,none⟩=some (.slice (some ⟨ba,oa,none⟩) (ln+1) c_args)∧Below wa.heap.size wa wr2) (fun kv _=>xl+1 - (intOf kv).toNat)
      case atStart=>exact ⟨nx,Nat.le_refl _,by omega,rfl,HALL.out,by simp [go_sem],zaM (R1 _)⟩
      case round=>
       obtain ⟨j,hj0,hj1,rfl,hall,hbx3,hbW⟩:=hrel
       have HAJ:=zaU hall
       clear hall
       have hBw:Below w.heap.size w wr:=hb.trans (hbW.mono hb.size)
       have hrb:=HBX.out.below hbW
       have hgl:=zaa hbW HGL.out
       have hw1:IntKind.i64.wrap ((ln:Int)+1 - 1)=(ln:Int):=by rw [show (ln:Int)+1 - 1=(ln:Int) by omega,IntKind.wrap_i64];omega
       have hw2:IntKind.i64.wrap (((ln+1:Nat):Int) - 1)=(ln:Int):=by rw [show ((ln+1:Nat):Int) - 1=(ln:Int) by omega,IntKind.wrap_i64];omega
       have hw3:IntKind.i64.wrap (ln:Int)=(ln:Int):=by rw [IntKind.wrap_i64];omega
       have y0:(0:Int)≤(ln:Int):=by omega
       have y1:(ln:Int)<((ln+1:Nat):Int):=by omega
       have y2:(ln:Int)<(ln:Int)+1:=by omega
       by_cases hjl:j≤xl
       ·obtain ⟨e,hek⟩:∃ e,x.exprs[j]?=some e:=⟨x.exprs[j]'(by omega),by simp⟩
        obtain ⟨be,oe,ee,hqe,e0,e1,e2,e3,e4,e5,e6,e7⟩:=(h_exprs.below hBw).get hek
        subst ee
        obtain ⟨r0,r1,r2,r3,r4⟩:=hrb
        have R2:∀ o,Below wr.heap.size wr (wr.alloc o):=fun o=>(Below.refl _ _).alloc (Nat.le_refl _) _
        have v0:(0:Int)≤(j:Int):=by omega
        have v1:(j:Int)<(x.exprs.length:Int):=by omega
        have v2:(j:Int)≤(xl:Int):=by omega
        have hsz:=hbW.size
        have r2':=fun o=>zaa (R2 o) r2
        clear r0 r1 r2 r4
        by_cases ek:e.kind=1
        ·rw [ek] at e0
         have hI:=zaU (fun w' h=>zg4 e.var a c known w' (q:=none) h (by omega))
         cases hm:memB e.var known
         all_goals
          rw [hm] at hI
          go_wp2_with (go_at_call 145;refine (hI.out _ ((HST.out.below hbW).below (R2 _))).mono ?_;rintro e' w1 ⟨rfl,rfl⟩)
         ·have HX:Hid (scope x=some (x.pats.length+1+k)):=show scope x=_ from by
           rw [HN.out,HG.out,HD.out,zax,HAV.out,zgb hek (by omega) (show za8 known e=false by simp [za8,ek,hm])]
           rfl
          go_ret
          exact ⟨zbk (by rw [HX.out];simp [zml];omega),hBw.alloc hBw.size _⟩
         ·have HJ:Hid ((x.exprs.take (j+1)).all (za8 known)=true):=show (x.exprs.take (j+1)).all (za8 known)=true from by rw [zh9 hek,HAJ.out];simp [za8,hm]
          go_roundw
          case rel=>exact ⟨j+1,by omega,by omega,by go_num,HJ.out,zaa (R2 _) hbx3,hbW.alloc hsz _⟩
          case measure=>simp [intOf];omega
        ·have HJ:Hid ((x.exprs.take (j+1)).all (za8 known)=true):=show (x.exprs.take (j+1)).all (za8 known)=true from by rw [zh9 hek,HAJ.out];simp [za8,ek]
         go_wp2
         go_roundw
         case rel=>exact ⟨j+1,by omega,by omega,by go_num,HJ.out,zaa (R2 _) hbx3,hbW.alloc hsz _⟩
         case measure=>simp [intOf];omega
       ·have hjx:j=xl+1:=by omega
        have v2:¬ (j:Int)≤(xl:Int):=by omega
        have HX:Hid (zdA x known=zaB (zbU x.exprs known) (x.acts.drop (k+1)) (x.pats.length+1+(k+1))):=show zdA x known=_ from by
         rw [HG.out,HD.out,zax,HAV.out,← hjx,HAJ.out]
         rfl
        clear hrb
        go_wp2
        go_roundw
        case rel=>exact ⟨k+1,nx',by omega,by go_num,HX.out,HAG2.out,by rw [hnx',← hjx];exact HAJ.out,HST.out.below hbW,HBX.out.below hbW,hBw⟩
        case measure=>simp [intOf];omega
    ·go_wp2
     go_ret
     exact ⟨zbk (by rw [HN.out,HG.out,List.drop_eq_nil_of_le (by omega)];rfl),hb⟩
end Go.Proofs.YtmmdlgjmplddiaaGreat
namespace Go.Proofs.YtmmdlgjmplddiaaGreat
open Go.RowKit
attribute [local go_sem ↓] Go.wp_at_zero Go.wp_at_succ
theorem zbo (pre:List Ru) (r:Ru) (s:List Ru) (k:Nat):zcV pre (r :: s) k=if (chk1 pre r).1=0 then zcV (pre ++ [r]) s (k+1) else ((chk1 pre r).1,(k:Int),(chk1 pre r).2):=rfl
def ckV (p:Int × Int × Int):Value:=.agg #[.int .i64 p.1,.int .i64 p.2.1,.int .i64 p.2.2]
set_option maxHeartbeats 1600000 in
theorem zcz (a:Option Addr) (c:Nat) (rs:List Ru) {q:Option Nat} (w:World) (hv:zbR q w a rs) (hc:rs.length≤c) (hle:zbu Ru.le 1048576 rs) (ho:∀ x∈rs,zdF x.exprs) :
  Calls Tryz.prog 30 #[.slice a rs.length c] w fun e w'=>e=.returned (ckV (chk rs))∧Below w.heap.size w w':=by
 obtain ⟨hl,hle⟩:=hle
 have B0:∀ o,Below w.heap.size w (w.alloc o):=fun o=>(Below.refl _ _).alloc (Nat.le_refl _) _
 by_cases h16:16<rs.length
 ·have h16':(16:Int)<(rs.length:Int):=by omega
  have HC:Hid (chk rs=(1,0,0)):=show chk rs=_ from by unfold chk;rw [if_neg (by omega)]
  go_enter Tryz.func30,Tryz.ntmps30
  go_wp2
  refine bodyPost_ret (v:=.agg #[.int .i64 1,.int .i64 0,.int .i64 0]) (by simp [results,Tryz.results30,go_sem]) rfl ⟨by rw [HC.out];rfl,B0 _⟩
 ·have h16':¬ (16:Int)<(rs.length:Int):=by omega
  have HC:Hid (chk rs=zcV [] rs 0):=show chk rs=_ from by unfold chk;rw [if_pos (by omega)]
  go_enter Tryz.func30,Tryz.ntmps30
  go_wp2
  go_loopw [13] (fun i wr=>∃ (k:Nat),k≤rs.length∧i=.int .i64 k∧chk rs=zcV (rs.take k) (rs.drop k) k∧w.heap.size<wr.heap.size∧(∀ j,j<3→wr.cell? ⟨w.heap.size,j,none⟩=some (.int .i64 0))∧(∀ j,wr.frozen? ⟨w.heap.size,j,none⟩=false)∧Below w.heap.size w wr) (fun i _=>rs.length - (intOf i).toNat)
  case atStart=>exact ⟨0,by omega,rfl,by rw [HC.out];rfl,by simp,fun j hj=>by (match j,hj with | 0,_=>simp [go_sem] | 1,_=>simp [go_sem] | 2,_=>simp [go_sem]),fun j=>by simp [go_sem],B0 _⟩
  case round=>
   obtain ⟨k,hk,rfl,hG,hws,hy,hyf,hb⟩:=hrel
   have HG:=zaU hG
   clear hG
   have y0:=hy 0 (by omega)
   have y1:=hy 1 (by omega)
   have y2:=hy 2 (by omega)
   have f0:=hyf 0
   have f1:=hyf 1
   have f2:=hyf 2
   have HY:=zaU (And.intro hy hyf)
   clear hy hyf
   by_cases hkl:k<rs.length
   ·obtain ⟨x,hxk⟩:∃ x,rs[k]?=some x:=⟨rs[k],by simp [hkl]⟩
    have hv':=hv.below hb
    obtain ⟨b,o,a_pats,c_pats,a_exprs,c_exprs,a_acts,c_acts,rfl,hq,c0,c1,c2,c3,c4,h_pats,h_exprs,h_acts,hcap⟩:=hv'.get hxk
    have hxl:=hle x (List.mem_of_getElem? hxk)
    have hxo:=ho x (List.mem_of_getElem? hxk)
    have HD:Hid (rs.drop k=x :: rs.drop (k+1)):=zak hxk
    have HT:Hid (rs.take (k+1)=rs.take k ++ [x]):=zbW rs k x hxk
    have hlen:(rs.take k).length=k:=by simp;omega
    have hBw:∀ o,Below wr.heap.size wr (wr.alloc o):=fun o=>(Below.refl _ _).alloc (Nat.le_refl _) _
    have hBa:∀ o,Below w.heap.size w (wr.alloc o):=fun o=>hb.alloc hb.size _
    have hCK:=zaU (fun w' (h0:Below wr.heap.size wr w')=>zmb x a_pats c_pats a_exprs c_exprs a_acts c_acts (some ⟨b,o,none⟩) c (rs.take k) (q:=q) w' (zaD.take (hv'.below h0) k) (h_pats.below h0) (h_exprs.below h0) (h_acts.below h0) hxl hxo hcap (by omega))
    rw [hlen] at hCK
    have z0:(0:Int)≤(k:Int):=by omega
    have z1:(k:Int)≤(c:Int):=by omega
    obtain ⟨⟨p1,p2⟩,hp⟩:∃ p,chk1 (rs.take k) x=p:=⟨_,rfl⟩
    rw [hp] at hCK
    by_cases hp0:p1=0
    ·have HX:Hid (chk rs=zcV (rs.take (k+1)) (rs.drop (k+1)) (k+1)):=show chk rs=_ from by rw [HG.out,HD.out,zbo,hp,if_pos hp0,HT.out]
     subst hp0
     go_wp2
     first
     | (go_region_held3 (fun w'=>w'.cell? ⟨wr.heap.size,0,none⟩=some (.string x.name)∧w'.cell? ⟨wr.heap.size,1,none⟩=some (.int .i64 x.sal)∧w'.cell? ⟨wr.heap.size,2,none⟩=some (.slice a_pats x.pats.length c_pats)∧w'.cell? ⟨wr.heap.size,3,none⟩=some (.slice a_exprs x.exprs.length c_exprs)∧w'.cell? ⟨wr.heap.size,4,none⟩=some (.slice a_acts x.acts.length c_acts)) ((go_split_ands;refine ⟨?_,?_,?_,?_,?_⟩ <;> first | (simp [go_sem];done) | exact zaa hb' (by assumption))) (first | (go_at_call 66;refine (hCK.out _ ((hBw _).drew)).mono ?_;rintro e w' ⟨rfl,hb'⟩) | fail))
     | fail
     have hW:Below wr.heap.size wr w':=(hBw _).drew.trans (hb'.mono (by have:=(hBw (.map #[] 0)).size;simp))
     go_wp2
     go_roundw
     case rel=>exact ⟨k+1,by omega,by go_num,HX.out,Nat.lt_of_lt_of_le hws hW.size,fun j hj=>zaa hW (HY.out.1 j hj),fun j=>by rw [(bcell hW).2 _ _ hws];exact HY.out.2 j,hb.trans (hW.mono hb.size)⟩
     case measure=>simp [intOf];omega
    ·have HX:Hid (chk rs=(p1,(k:Int),p2)):=show chk rs=_ from by rw [HG.out,HD.out,zbo,hp,if_neg hp0]
     have hp1:(p1 != 0)=true:=by simpa using hp0
     go_wp2
     first
     | (go_region_held3 (fun w'=>w'.cell? ⟨wr.heap.size,0,none⟩=some (.string x.name)∧w'.cell? ⟨wr.heap.size,1,none⟩=some (.int .i64 x.sal)∧w'.cell? ⟨wr.heap.size,2,none⟩=some (.slice a_pats x.pats.length c_pats)∧w'.cell? ⟨wr.heap.size,3,none⟩=some (.slice a_exprs x.exprs.length c_exprs)∧w'.cell? ⟨wr.heap.size,4,none⟩=some (.slice a_acts x.acts.length c_acts)) ((go_split_ands;refine ⟨?_,?_,?_,?_,?_⟩ <;> first | (simp [go_sem];done) | exact zaa hb' (by assumption))) (first | (go_at_call 66;refine (hCK.out _ ((hBw _).drew)).mono ?_;rintro e w' ⟨rfl,hb'⟩) | fail))
     | fail
     have hW:Below wr.heap.size wr w':=(hBw _).drew.trans (hb'.mono (by have:=(hBw (.map #[] 0)).size;simp))
     have y0':=zaa hW y0
     have y1':=zaa hW y1
     have y2':=zaa hW y2
     have f0':w'.frozen? ⟨w.heap.size,0,none⟩=false:=by rw [(bcell hW).2 _ _ hws];exact f0
     have f1':w'.frozen? ⟨w.heap.size,1,none⟩=false:=by rw [(bcell hW).2 _ _ hws];exact f1
     have f2':w'.frozen? ⟨w.heap.size,2,none⟩=false:=by rw [(bcell hW).2 _ _ hws];exact f2
     go_wp2
     have hbW:=hb.trans (hW.mono hb.size)
     refine bodyPost_ret (v:=.agg #[.int .i64 p1,.int .i64 (k:Int),.int .i64 p2]) (by simp [results,Tryz.results30,go_sem,y0',y1',y2']) rfl ⟨by rw [HX.out];rfl,?_⟩
     exact ((hbW.setCell (Nat.le_refl _) _).setCell (Nat.le_refl _) _).setCell (Nat.le_refl _) _
   ·have HX:Hid (chk rs=(0,0,0)):=show chk rs=_ from by rw [HG.out,List.drop_eq_nil_of_le (by omega)];rfl
    go_wp2
    refine bodyPost_ret (v:=.agg #[.int .i64 0,.int .i64 0,.int .i64 0]) (by simp [results,Tryz.results30,go_sem,y0,y1,y2]) rfl ⟨by rw [HX.out];rfl,?_⟩
    exact ((hb.setCell (Nat.le_refl _) _).setCell (Nat.le_refl _) _).setCell (Nat.le_refl _) _
end Go.Proofs.YtmmdlgjmplddiaaGreat
namespace Go.Proofs.YtmmdlgjmplddiaaGreat
open Go.RowKit
attribute [local go_sem ↓] Go.wp_at_zero Go.wp_at_succ
def Rz (b:Nat) (w:World):Prop:=(∀ j,j<3→w.cell? ⟨b,j,none⟩=some (.int .i64 0))∧(∀ j,w.frozen? ⟨b,j,none⟩=false)∧b<w.heap.size
theorem Rz.below {b:Nat}{w w':World} (h:Rz b w) (hb:Below w.heap.size w w'):Rz b w':=
 ⟨fun j hj=>zaa hb (h.1 j hj),fun j=>by rw [(bcell hb).2 _ _ h.2.2];exact h.2.1 j,Nat.lt_of_lt_of_le h.2.2 hb.size⟩
theorem Rz.made (w:World) (t:TypeId):Rz w.heap.size (w.alloc (.cells #[.int .i64 0,.int .i64 0,.int .i64 0] t)):=
 ⟨fun j hj=>by (match j,hj with | 0,_=>simp [go_sem] | 1,_=>simp [go_sem] | 2,_=>simp [go_sem]),fun j=>by simp [go_sem],by simp⟩
end Go.Proofs.YtmmdlgjmplddiaaGreat
namespace Go.Proofs.YtmmdlgjmplddiaaGreat
open Go.RowKit
attribute [local go_sem ↓] Go.wp_at_zero Go.wp_at_succ
end Go.Proofs.YtmmdlgjmplddiaaGreat
namespace Go.Proofs.YtmmdlgjmplddiaaGreat
open Go.RowKit
attribute [local go_sem ↓] Go.wp_at_zero Go.wp_at_succ
theorem hidS {p:Prop} (h:p):Hid p:=h
theorem zmK {a b:Int} (h:b=a):Ending.returned (.int .i64 a)=.returned (.int .i64 b):=by rw [h]
theorem zmn {xs ys:List Int}{k:Nat}{x y:Int} (hx:xs[k]?=some x) (hy:ys[k]?=some y):lexT (xs.drop k) (ys.drop k)=if x<y then -1 else if y<x then 1 else lexT (xs.drop (k+1)) (ys.drop (k+1)):=by
 rw [zak hx,zak hy,lexT]
theorem zjL {xs ys:List Int}{k:Nat} (hx:k≤xs.length) (hy:k≤ys.length) (h:k=xs.length∨k=ys.length):lexT (xs.drop k) (ys.drop k)=(xs.length:Int) - (ys.length:Int):=by
 rcases h with h | h
 ·rw [(List.drop_eq_nil_of_le (by omega):xs.drop k=[]),lexT,List.length_drop]
  omega
 ·rw [(List.drop_eq_nil_of_le (by omega):ys.drop k=[])]
  cases hd:xs.drop k with
  | nil=>
   have:xs.length - k=0:=by rw [← List.length_drop,hd];rfl
   simp [lexT]
   omega
  | cons z r=>
   have:(z :: r).length=xs.length - k:=by rw [← hd,List.length_drop]
   rw [lexT,this]
   omega
set_option maxHeartbeats 1600000 in
theorem zgD (a a':Option Addr) (c c':Nat) (xs ys:List Int) (w:World) {q q':Option Nat} (hv:zas q w a xs) (hv':zas q' w a' ys) (hl:xs.length≤1048576) (hl':ys.length≤1048576) :
  Calls Tryz.prog 82 #[.slice a xs.length c,.slice a' ys.length c'] w fun e w'=>e=.returned (.int .i64 (lexT xs ys))∧Below w.heap.size w w':=by
 go_enter Tryz.func82,Tryz.ntmps82
 go_wp2
 go_loopw [5] (fun i wr=>∃ (k:Nat),k≤xs.length∧k≤ys.length∧i=.int .i64 k∧lexT xs ys=lexT (xs.drop k) (ys.drop k)∧Below w.heap.size w wr) (fun i _=>xs.length - (intOf i).toNat)
 case atStart=>exact ⟨0,by omega,by omega,rfl,rfl,Below.refl _ _⟩
 case round=>
  obtain ⟨k,hk,hk',rfl,hG,hb⟩:=hrel
  have HG:=hidS hG
  clear hG
  by_cases hkl:k<xs.length
  ·obtain ⟨x,hxk⟩:∃ x,xs[k]?=some x:=⟨xs[k],by simp [hkl]⟩
   obtain ⟨b,o,rfl,hq,d0⟩:=(hv.below hb).get hxk
   by_cases hkl':k<ys.length
   ·obtain ⟨y,hyk⟩:∃ y,ys[k]?=some y:=⟨ys[k],by simp [hkl']⟩
    obtain ⟨b',o',rfl,hq',d1⟩:=(hv'.below hb).get hyk
    have HL:=hidS (zmn hxk hyk)
    have z0:(k:Int)<(xs.length:Int):=by omega
    have z1:(k:Int)<(ys.length:Int):=by omega
    by_cases h1:x<y
    ·have HE:=hidS (show lexT xs ys = -1 from by rw [HG.out,HL.out,if_pos h1])
     go_wp2
     go_region
     go_wp2
     go_ret
     exact ⟨zmK HE.out,hb.drew⟩
    ·by_cases h2:y<x
     ·have HE:=hidS (show lexT xs ys=1 from by rw [HG.out,HL.out,if_neg h1,if_pos h2])
      go_wp2
      go_region
      go_wp2
      go_region
      go_wp2
      go_ret
      exact ⟨zmK HE.out,hb.drew.drew⟩
     ·have HE:=hidS (show lexT xs ys=lexT (xs.drop (k+1)) (ys.drop (k+1)) from by rw [HG.out,HL.out,if_neg h1,if_neg h2])
      go_wp2
      go_region
      go_wp2
      go_region
      go_wp2
      go_roundw
      case rel=>exact ⟨k+1,by omega,by omega,by go_num,HE.out,hb.drew.drew⟩
      case measure=>simp [intOf];omega
   ·have HE:=hidS (zjL hk hk' (.inr (by omega)))
    have z1:¬ (k:Int)<(ys.length:Int):=by omega
    have hw:IntKind.i64.wrap ((xs.length:Int) - (ys.length:Int))=(xs.length:Int) - (ys.length:Int):=by rw [IntKind.wrap_i64];omega
    go_wp2
    go_ret
    exact ⟨zmK (by rw [HG.out,HE.out]),hb⟩
  ·have HE:=hidS (zjL hk hk' (.inl (by omega)))
   have z1:¬ (k:Int)<(xs.length:Int):=by omega
   have hw:IntKind.i64.wrap ((xs.length:Int) - (ys.length:Int))=(xs.length:Int) - (ys.length:Int):=by rw [IntKind.wrap_i64];omega
   go_wp2
   go_ret
   exact ⟨zmK (by rw [HG.out,HE.out]),hb⟩
set_option maxHeartbeats 800000 in
theorem zfS (rs:List Ru) (a:Option Addr) (c:Nat) (x:In) (at':Option Addr) (ct:Nat) (w:World) (hl:rs.length≤1048576) (ht:x.tags.length≤1048576) :
  Calls Tryz.prog 45 #[.slice a rs.length c,.agg #[.int .i64 x.rule,.slice at' x.tags.length ct]] w fun e w'=>e=.returned (.bool (zaJ rs x))∧Below w.heap.size w w':=by
 have HP:Hid (zaJ rs x=(decide (0≤x.rule) && (decide (x.rule<(rs.length:Int)) && decide (x.tags.length≤3)))):=rfl
 have B0:∀ o,Below w.heap.size w (w.alloc o):=fun o=>(Below.refl _ _).alloc (Nat.le_refl _) _
 by_cases h1:0≤x.rule <;> by_cases h2:x.rule<(rs.length:Int) <;> by_cases h3:x.tags.length≤3
 all_goals
  first
  | (exfalso;omega;done)
  | (go_enter Tryz.func45,Tryz.ntmps45
     go_wp2
     go_ret
     exact ⟨zac (by rw [HP.out];first | (simp [h1,h2,h3];done) | (simp [h1,h2,h3];omega)),B0 _⟩)
end Go.Proofs.YtmmdlgjmplddiaaGreat
namespace Go.Proofs.YtmmdlgjmplddiaaGreat
open Go.RowKit
attribute [local go_sem ↓] Go.wp_at_zero Go.wp_at_succ
theorem zm8 {w:World}{b o:Nat}{x:Value} (h:w.cell? ⟨b,o,none⟩=some x):b<w.heap.size:=by
 by_cases hp:b<w.heap.size
 ·exact hp
 ·have:w.heap[b]?=none:=Array.getElem?_eq_none (by omega)
  simp [World.cell?,this] at h
theorem zcL {x:Ru}{i:Nat} (h0:Hid (shape x=none)) (hx:Hid (shape x=some i)):False:=by
 have h:=h0.out
 rw [hx.out] at h
 cases h
set_option maxHeartbeats 3200000 in
theorem ziD (x:Ru) (a_pats:Option Addr) (c_pats:Nat) (a_exprs:Option Addr) (c_exprs:Nat) (a_acts:Option Addr) (c_acts:Nat) {q:Option Nat} (w:World) (h_pats:zcf q w a_pats x.pats) (h_exprs:zbw q w a_exprs x.exprs) (h_acts:zcO q w a_acts x.acts) (hle:x.le 1048576) (ho:zdF x.exprs) (H0:Hid (shape x=none)) :
  Calls Tryz.prog 116 #[.agg #[.string x.name,.int .i64 x.sal,.slice a_pats x.pats.length c_pats,.slice a_exprs x.exprs.length c_exprs,.slice a_acts x.acts.length c_acts]] w fun e w'=>e=.returned (.int .i64 (-1))∧Below w.heap.size w w':=by
 obtain ⟨hsn0,hsp,hse,hsa⟩:=hle
 have hsn:x.name.size≤maxLen:=Nat.le_trans hsn0 zbf
 have hpl:=hsp.1
 have hel:=hse.1
 have hal:=hsa.1
 have B0:∀ o,Below w.heap.size w (w.alloc o):=fun o=>(Below.refl _ _).alloc (Nat.le_refl _) _
 cases hg:gSym x.name.data.toList
 ·have HN:Hid (shape x=some 0):=show shape x=some 0 from by simp [shape,zco,hg]
  exact (zcL H0 HN).elim
 by_cases l6:6<x.pats.length
 ·have l6':(6:Int)<(x.pats.length:Int):=by omega
  have HN:Hid (shape x=some 0):=show shape x=some 0 from by simp [shape,zco];omega
  exact (zcL H0 HN).elim
 have l6':¬ (6:Int)<(x.pats.length:Int):=by omega
 by_cases l8:8<x.acts.length
 ·have l8':(8:Int)<(x.acts.length:Int):=by omega
  have HN:Hid (shape x=some 0):=show shape x=some 0 from by simp [shape,zco];omega
  exact (zcL H0 HN).elim
 have l8':¬ (8:Int)<(x.acts.length:Int):=by omega
 by_cases l60:60<x.exprs.length
 ·have l60':(60:Int)<(x.exprs.length:Int):=by omega
  have HN:Hid (shape x=some 0):=show shape x=some 0 from by simp [shape,zco];omega
  exact (zcL H0 HN).elim
 have l60':¬ (60:Int)<(x.exprs.length:Int):=by omega
 have HH:Hid (shape x=match zaB gPt x.pats 1 with | some i=>some i | none=>rest x):=zg6 x (by simp [zco,hg];omega)
 go_enter Tryz.func116,Tryz.ntmps116
 go_wp2_with (go_at_call 87;refine (zaQ x.name _ hsn).mono ?_;rintro e w' ⟨rfl,rfl⟩)
 go_loopw [34] (fun i wr=>∃ (k:Nat),k≤x.pats.length∧i=.int .i64 k∧(shape x=match zaB gPt (x.pats.drop k) (k+1) with | some i=>some i | none=>rest x)∧zb8 wr w.heap.size x a_pats c_pats a_exprs c_exprs a_acts c_acts∧Below w.heap.size w wr) (fun i _=>x.pats.length - (intOf i).toNat)
 case atStart=>exact ⟨0,by omega,rfl,HH.out,zb8.made _ _ _ _ _ _ _ _ _,B0 _⟩
 case round=>
  obtain ⟨k,hk,rfl,hG,hbox,hb⟩:=hrel
  have HG:Hid (shape x=match zaB gPt (x.pats.drop k) (k+1) with | some i=>some i | none=>rest x):=hG
  clear hG
  by_cases hkl:k<x.pats.length
  ·obtain ⟨p,hpk⟩:∃ p,x.pats[k]?=some p:=⟨x.pats[k],by simp [hkl]⟩
   obtain ⟨b,o,a_terms,c_terms,rfl,hq,c0,c1,c2,h_terms⟩:=(h_pats.below hb).get hpk
   have hpp:=hsp.2 p (List.mem_of_getElem? hpk)
   have HD:Hid (x.pats.drop k=p :: x.pats.drop (k+1)):=zak hpk
   have B1:∀ o,Below wr.heap.size wr (wr.alloc o):=fun o=>(Below.refl _ _).alloc (Nat.le_refl _) _
   cases hgp:gPt p
   ·have HN:Hid (shape x=some (k+1)):=show shape x=_ from by rw [HG.out,HD.out,zax,hgp];rfl
    exact (zcL H0 HN).elim
   ·go_wp2_with (go_at_call 36;refine (zgV p a_terms c_terms _ (h_terms.below (B1 _)) (Nat.le_trans hpp.1 zbf) (hpp.2.mono zbf (Tm.mono zbf)) hpp.2.1).mono ?_;rintro e w1 ⟨rfl,hb1⟩)
    have HN:Hid (shape x=match zaB gPt (x.pats.drop (k+1)) (k+1+1) with | some i=>some i | none=>rest x):=show shape x=_ from by rw [HG.out,HD.out,zax,hgp];rfl
    have hW1:Below wr.heap.size wr w1:=(B1 _).trans (hb1.mono (by simp))
    go_roundw
    case rel=>exact ⟨k+1,by omega,by go_num,HN.out,hbox.below hW1,hb.trans (hW1.mono hb.size)⟩
    case measure=>simp [intOf];omega
  ·have HR:Hid (shape x=rest x):=show shape x=rest x from by rw [HG.out,List.drop_eq_nil_of_le (by omega)];rfl
   have HBX:=zbL hbox
   obtain ⟨q0,q1,q2,q3,q4⟩:=hbox
   go_wp2
   clear q0 q1 q2 q3 q4
   go_loopw [48] (fun i wr'=>∃ (S:List Sp),S.length≤x.exprs.length∧i=.int .i64 (S.length:Int)∧Spans x.exprs S∧zaq [] x.exprs=zaq S (x.exprs.drop S.length)∧zb8 wr' w.heap.size x a_pats c_pats a_exprs c_exprs a_acts c_acts∧Below w.heap.size w wr') (fun i _=>x.exprs.length - (intOf i).toNat)
   case atStart=>exact ⟨[],by simp,rfl,Spans.nil _,rfl,HBX.out,hb⟩
   case round=>
    clear HBX hb HG hk hkl
    obtain ⟨S,hk,rfl,hS,hG,hbox,hb⟩:=hrel
    have HG:=zbL hG
    have HS:=zbL hS
    have HBX:=zbL hbox
    clear hG hS
    obtain ⟨q0,q1,q2,q3,q4⟩:=hbox
    by_cases hkl:S.length<x.exprs.length
    ·obtain ⟨e,hek⟩:∃ e,x.exprs[S.length]?=some e:=⟨x.exprs[S.length],by simp [hkl]⟩
     have HD:Hid (x.exprs.drop S.length=e :: x.exprs.drop (S.length+1)):=zak hek
     have hee:=(hse.mono zbf (Ex.mono zbf)).2 e (List.mem_of_getElem? hek)
     obtain ⟨ho0,ho1⟩:=ho e (List.mem_of_getElem? hek)
     cases hso:zaG S e with
     | none=>
      have HN:Hid (shape x=some (S.length+1)):=show shape x=_ from by
       have h1:zaq [] x.exprs=S:=by rw [HG.out,HD.out,zaq,hso]
       rw [HR.out]
       unfold rest
       rw [h1,if_pos hkl]
      exact (zcL H0 HN).elim
     | some s=>
      have hGE:=zbL (fun w' h=>zgc a_exprs c_exprs x.exprs S e w' (q:=q) h (by omega) HS.out hek hee ho0 ho1 (by rw [hso];rfl))
      have HN:Hid (zaq [] x.exprs=zaq (S ++ [s]) (x.exprs.drop (S.length+1))):=show zaq [] x.exprs=_ from by rw [HG.out,HD.out,zaq,hso]
      go_wp2_with (go_at_call 143;refine (hGE.out _ (h_exprs.below hb)).mono ?_;rintro e' w1 ⟨rfl,hb1⟩)
      go_roundw
      case rel=>exact ⟨S ++ [s],by simp;omega,by simp,HS.out.snoc hek hso,by rw [HN.out];simp,HBX.out.below hb1,hb.trans (hb1.mono hb.size)⟩
      case measure=>simp [intOf];omega
    ·have hfull:S.length=x.exprs.length:=by omega
     have h1:zaq [] x.exprs=S:=by
      rw [HG.out,List.drop_eq_nil_of_le (by omega)]
      rfl
     have HR2:Hid (shape x=zb1 S x.acts 0 1):=show shape x=_ from by
      rw [HR.out]
      unfold rest
      rw [h1,if_neg (by omega)]
     have HFL:=zbL hfull
     clear h1 HG HR hfull
     have hwl:w.heap.size<wr.heap.size:=zm8 q0
     go_wp2
     obtain ⟨wo,rfl⟩:∃ u,u=wr:=⟨wr,rfl⟩
     have hbo:Below w.heap.size w (wo.alloc (.cells #[.int .i64 0] 3)):=hb.alloc hb.size _
     have hbx0:=HBX.out.below (w':=wo.alloc (.cells #[.int .i64 0] 3)) ((Below.refl _ _).alloc (Nat.le_refl _) _)
     clear q0 q1 q2 q3 q4 HBX
     go_loopw [62] (fun i wr'=>∃ (k nk:Nat),k≤x.acts.length∧i=.int .i64 k∧nk≤60∧shape x=zb1 S (x.acts.drop k) nk (k+1)∧wr'.cell? ⟨wo.heap.size,0,none⟩=some (.int .i64 (nk:Int))∧wr'.frozen? ⟨wo.heap.size,0,none⟩=false∧wo.heap.size<wr'.heap.size∧zb8 wr' w.heap.size x a_pats c_pats a_exprs c_exprs a_acts c_acts∧Below w.heap.size w wr') (fun i _=>x.acts.length - (intOf i).toNat)
     case atStart=>exact ⟨0,0,by omega,rfl,by omega,HR2.out,by simp [go_sem],by simp [go_sem],by simp,hbx0,hbo⟩
     case round=>
      clear hbo hbx0 hb
      obtain ⟨k,nk,hk2,rfl,hnk,hG,hp1,hf1,hpl1,hbox,hb⟩:=hrel
      have HG:=zbL hG
      have HBX:=zbL hbox
      clear hG
      obtain ⟨q0,q1,q2,q3,q4⟩:=hbox
      by_cases hkl2:k<x.acts.length
      ·obtain ⟨y,hyk⟩:∃ y,x.acts[k]?=some y:=⟨x.acts[k],by simp [hkl2]⟩
       obtain ⟨b,o,a_args,c_args,rfl,hq,c0,c1,c2,c3,h_args0⟩:=h_acts.get hyk
       have d0:=zaa hb c0
       have d1:=zaa hb c1
       have d2:=zaa hb c2
       have d3:=zaa hb c3
       clear c0 c1 c2 c3
       have hyy:=hsa.2 y (List.mem_of_getElem? hyk)
       have HD:Hid (x.acts.drop k=y :: x.acts.drop (k+1)):=zak hyk
       have hBw:∀ o,Below wr.heap.size wr (wr.alloc o):=fun o=>(Below.refl _ _).alloc (Nat.le_refl _) _
       have hBa:∀ o,Below w.heap.size w (wr.alloc o):=fun o=>hb.alloc hb.size _
       have hGA:=zbL (fun w' h0 hp hf hpw=>zhi x a_pats c_pats a_exprs c_exprs (some ⟨b,o,none⟩) c_acts y a_args c_args wo.heap.size nk S (q:=q) w w' h0 h_exprs h_args0 HS.out HFL.out (by omega) (Nat.le_trans hyy.1 zbf) hyy.2 hp hf (by omega) hpw hnk)
       have q0':∀ o,(wr.alloc o).cell? ⟨w.heap.size,0,none⟩=_:=fun o=>zaa (hBw o) q0
       have q1':∀ o,(wr.alloc o).cell? ⟨w.heap.size,1,none⟩=_:=fun o=>zaa (hBw o) q1
       have q2':∀ o,(wr.alloc o).cell? ⟨w.heap.size,2,none⟩=_:=fun o=>zaa (hBw o) q2
       have q3':∀ o,(wr.alloc o).cell? ⟨w.heap.size,3,none⟩=_:=fun o=>zaa (hBw o) q3
       have q4':∀ o,(wr.alloc o).cell? ⟨w.heap.size,4,none⟩=_:=fun o=>zaa (hBw o) q4
       clear q0 q1 q2 q3 q4
       cases hga:gAc S y nk with
       | none=>
        have HN:Hid (shape x=some (k+1)):=show shape x=_ from by rw [HG.out,HD.out,zce,hga]
        exact (zcL H0 HN).elim
       | some nk'=>
        rw [hga] at hGA
        have HN:Hid (shape x=zb1 S (x.acts.drop (k+1)) nk' (k+1+1)):=show shape x=_ from by rw [HG.out,HD.out,zce,hga]
        go_wp2_with (go_at_call 144;refine (hGA.out _ (hBa _) (zaa (hBw _) hp1) (by rw [(bcell (hBw _)).2 _ _ hpl1];exact hf1) (by simp;omega)).mono ?_;rintro e w3 ⟨rfl,hb3,hn3,hf3⟩)
        obtain ⟨hn60,hp3⟩:=hn3 nk' rfl
        have hs3:=hb3.size
        go_roundw
        case rel=>exact ⟨k+1,nk',by omega,by go_num,hn60,HN.out,hp3,hf3,by simp at hs3;omega,(HBX.out.below (hBw _)).belowB hb3 (by omega),(hBa _).trans (hb3.mono (by omega))⟩
        case measure=>simp [intOf];omega
      ·have e0:x.acts.drop k=[]:=List.drop_eq_nil_of_le (by omega)
       have HE:Hid (shape x=if nk=S.length then none else some (k+1)):=show shape x=_ from by rw [HG.out,e0];rfl
       by_cases hfin:nk=x.exprs.length
       ·have hne:((nk:Int) != (x.exprs.length:Int))=false:=by simp;omega
        go_wp2
        go_ret
        exact ⟨rfl,hb⟩
       ·have HN:Hid (shape x=some (k+1)):=show shape x=_ from by rw [HE.out,if_neg (by have:=HFL.out;omega)]
        exact (zcL H0 HN).elim
end Go.Proofs.YtmmdlgjmplddiaaGreat
namespace Go.Proofs.YtmmdlgjmplddiaaGreat
open Go.RowKit
attribute [local go_sem ↓] Go.wp_at_zero Go.wp_at_succ
theorem zkQ {p:Prop} (h:p):Hid p:=h
def RzY (b:Nat) (w:World):Prop:=(∀ j,j<3→w.cell? ⟨b,j,none⟩=some (.int .i64 0))∧(∀ j,w.frozen? ⟨b,j,none⟩=false)∧b<w.heap.size
theorem RzY.below {b:Nat}{w w':World} (h:RzY b w) (hb:Below w.heap.size w w'):RzY b w':=
 ⟨fun j hj=>zaa hb (h.1 j hj),fun j=>by rw [(bcell hb).2 _ _ h.2.2];exact h.2.1 j,Nat.lt_of_lt_of_le h.2.2 hb.size⟩
theorem RzY.get {b:Nat}{w:World} (h:RzY b w):w.cell? ⟨b,0,none⟩=some (.int .i64 0)∧w.cell? ⟨b,1,none⟩=some (.int .i64 0)∧w.cell? ⟨b,2,none⟩=some (.int .i64 0)∧w.frozen? ⟨b,0,none⟩=false∧w.frozen? ⟨b,1,none⟩=false∧w.frozen? ⟨b,2,none⟩=false:=
 ⟨h.1 0 (by omega),h.1 1 (by omega),h.1 2 (by omega),h.2.1 0,h.2.1 1,h.2.1 2⟩
theorem RzY.made (w:World) (t:TypeId):RzY w.heap.size (w.alloc (.cells #[.int .i64 0,.int .i64 0,.int .i64 0] t)):=
 ⟨fun j hj=>by (match j,hj with | 0,_=>simp [go_sem] | 1,_=>simp [go_sem] | 2,_=>simp [go_sem]),fun j=>by simp [go_sem],by simp⟩
theorem zdQ {rs:List Ru}{n i j:Int} (h0:Hid ((chk rs).1=0)) (hx:Hid (chk rs=(n,i,j))) (hn:n≠0):False:=by
 have h:=h0.out
 rw [hx.out] at h
 exact hn h
set_option maxHeartbeats 3200000 in
set_option maxRecDepth 100000 in
theorem zfa (a:Option Addr) (c:Nat) (rs:List Ru) (q:Option Nat) (w:World) (hv:zbR q w a rs) (hc:rs.length≤c) (hle:zbu Ru.le 1048576 rs) (ho:∀ x∈rs,zdF x.exprs) (H0:Hid ((chk rs).1=0)) :
  Calls Tryz.prog 81 #[.slice a rs.length c] w fun e w'=>e=.returned (ckV (0,0,0))∧Below w.heap.size w w':=by
 obtain ⟨hl,hle⟩:=hle
 have B0:∀ o,Below w.heap.size w (w.alloc o):=fun o=>(Below.refl _ _).alloc (Nat.le_refl _) _
 by_cases h16:16<rs.length
 ·have h16':(16:Int)<(rs.length:Int):=by omega
  have HC:Hid (chk rs=(1,0,0)):=show chk rs=_ from by unfold chk;rw [if_neg (by omega)]
  exact (zdQ H0 HC (by decide)).elim
 ·have h16':¬ (16:Int)<(rs.length:Int):=by omega
  have HC:Hid (chk rs=zcV [] rs 0):=show chk rs=_ from by unfold chk;rw [if_pos (by omega)]
  have HLE:=zaU hle
  have HOO:=zaU ho
  clear hle ho
  go_enter Tryz.func81,Tryz.ntmps81
  go_wp2
  go_loopw [17] (fun i wr=>∃ (k:Nat),k≤rs.length∧i=.int .i64 k∧chk rs=zcV (rs.take k) (rs.drop k) k∧RzY w.heap.size wr∧Below w.heap.size w wr) (fun i _=>rs.length - (intOf i).toNat)
  case atStart=>exact ⟨0,by omega,rfl,by rw [HC.out];rfl,RzY.made _ _,B0 _⟩
  case round=>
   obtain ⟨k,hk,rfl,hG,hrz,hb⟩:=hrel
   have HG:=zaU hG
   have HRZ:=zaU hrz
   clear hG
   by_cases hkl:k<rs.length
   ·obtain ⟨x,hxk⟩:∃ x,rs[k]?=some x:=⟨rs[k],by simp [hkl]⟩
    have hv':=hv.below hb
    obtain ⟨b,o,a_pats,c_pats,a_exprs,c_exprs,a_acts,c_acts,rfl,hq,c0,c1,c2,c3,c4,h_pats,h_exprs,h_acts,hcap⟩:=hv'.get hxk
    have hxl:=HLE.out x (List.mem_of_getElem? hxk)
    have hxo:=HOO.out x (List.mem_of_getElem? hxk)
    have HD:Hid (rs.drop k=x :: rs.drop (k+1)):=zak hxk
    have HT:Hid (rs.take (k+1)=rs.take k ++ [x]):=zbW rs k x hxk
    obtain ⟨wo,rfl⟩:∃ u,u=wr:=⟨wr,rfl⟩
    have B1:∀ o,Below wo.heap.size wo (wo.alloc o):=fun o=>(Below.refl _ _).alloc (Nat.le_refl _) _
    have HP:=zaU h_pats
    have HE:=zaU h_exprs
    have HA:=zaU h_acts
    have hSH:=zaU (fun (hs:Hid (shape x=none)) w' (h0:Below wo.heap.size wo w')=>ziD x a_pats c_pats a_exprs c_exprs a_acts c_acts (q:=q) w' (h_pats.below h0) (h_exprs.below h0) (h_acts.below h0) hxl hxo hs)
    have hbx0:=zb8.made wo 35 x a_pats c_pats a_exprs c_exprs a_acts c_acts
    have HBX0:=zaU hbx0
    clear h_pats h_exprs h_acts hv' hrz hbx0 hq hcap
    cases hshape:shape x with
    | some i=>
     have HX:Hid (chk rs=(1,(k:Int),(i:Int))):=show chk rs=_ from by
      have h1:chk1 (rs.take k) x=(1,(i:Int)):=by unfold chk1;rw [hshape]
      rw [HG.out,HD.out,zbo,h1,if_neg (by simp)]
     exact (zdQ H0 HX (by decide)).elim
    | none=>
     have z0:(0:Int)≤(k:Int):=by omega
     have z1:(k:Int)≤(c:Int):=by omega
     go_wp2_with (go_at_call 116;refine (hSH.out hshape _ (B1 _)).mono ?_;rintro e w1 ⟨rfl,hb1⟩)
     have hW1:Below wo.heap.size wo w1:=(B1 _).trans (hb1.mono (by simp))
     have hbx1:=HBX0.out.below hb1
     have hrz1:=(HRZ.out.below (B1 _)).below hb1
     have hb1':=hb.trans (hW1.mono hb.size)
     clear hb1
     go_loopw [33] (fun i wr=>∃ (j:Nat),j≤k∧i=.int .i64 j∧(rs.take k).any (fun o=>decide (o.name=x.name))=((rs.take k).drop j).any (fun o=>decide (o.name=x.name))∧zb8 wr wo.heap.size x a_pats c_pats a_exprs c_exprs a_acts c_acts∧RzY w.heap.size wr∧Below wo.heap.size wo wr) (fun i _=>k - (intOf i).toNat)
     case atStart=>exact ⟨0,by omega,rfl,rfl,hbx1,hrz1,hW1⟩
     case round=>
      clear hW1 hbx1 hrz1 hb1' c0 c1 c2 c3 c4
      obtain ⟨j,hj,rfl,hN,hbox,hrz,hbo⟩:=hrel
      have HN:=zaU hN
      have HBX:=zaU hbox
      have HRZ2:=zaU hrz
      clear hN
      have hbw:Below w.heap.size w wr:=hb.trans (hbo.mono hb.size)
      have hlen:(rs.take k).length=k:=by simp;omega
      by_cases hjl:j<k
      ·obtain ⟨y,hyk⟩:∃ y,(rs.take k)[j]?=some y:=⟨(rs.take k)[j]'(by omega),List.getElem?_eq_getElem _⟩
       have hpre:zbR q wr (some ⟨b,o,none⟩) (rs.take k):=zaD.take (hv.below hbw) k
       obtain ⟨b2,o2,a1,k1,a2,k2,a3,k3,ee,hq,c0,c1,c2,c3,c4,_,_,_⟩:=hpre.get hyk
       cases ee
       have HDJ:Hid ((rs.take k).drop j=y :: (rs.take k).drop (j+1)):=zak hyk
       have R1:∀ o,Below wr.heap.size wr (wr.alloc o):=fun o=>(Below.refl _ _).alloc (Nat.le_refl _) _
       have q0':∀ o,(wr.alloc o).cell? ⟨wo.heap.size,0,none⟩=some (.string x.name):=fun o=>zaa (R1 o) hbox.1
       have hws:wo.heap.size<wr.heap.size:=zg0 hbox.1
       have v1:(j:Int)<(k:Int):=by omega
       have v0:(0:Int)≤(j:Int):=by omega
       clear hpre hbox hlen
       cases e1:(y.name.toList==x.name.toList)
       ·have HX:Hid ((rs.take k).any (fun o=>decide (o.name=x.name))=((rs.take k).drop (j+1)).any (fun o=>decide (o.name=x.name))):=show _=_ from by
         rw [zaL] at e1
         rw [HN.out,HDJ.out,List.any_cons,e1]
         rfl
        clear hrz
        go_wp2
        go_roundw
        case rel=>exact ⟨j+1,by omega,by go_num,HX.out,HBX.out.below (R1 _),HRZ2.out.below (R1 _),hbo.alloc hbo.size _⟩
        case measure=>simp [intOf];omega
       ·have HX:Hid (chk rs=(2,(k:Int),0)):=show chk rs=_ from by
         have h1:chk1 (rs.take k) x=(2,0):=by
          rw [zaL] at e1
          unfold chk1
          rw [hshape]
          simp only
          rw [HN.out,HDJ.out,List.any_cons,e1]
          rfl
         rw [HG.out,HD.out,zbo,h1,if_neg (by simp)]
        exact (zdQ H0 HX (by decide)).elim
      ·have HANY:Hid ((rs.take k).any (fun o=>decide (o.name=x.name))=false):=show _=_ from by rw [HN.out,List.drop_eq_nil_of_le (by omega)];rfl
       have hpos:positives x.pats≤x.pats.length:=List.countP_le_length
       obtain ⟨hp6,ha8,he60,hpt,hfull,hargs⟩:=zen hshape
       have hPO:=zkQ (fun w' (h0:Below wo.heap.size wo w')=>zfW x a_pats c_pats a_exprs c_exprs a_acts c_acts (q:=q) w' (HP.out.below h0) (by omega))
       have hSC:=zkQ (fun w' (h0:Below wo.heap.size wo w')=>ziL x a_pats c_pats a_exprs c_exprs a_acts c_acts (q:=q) w' (HP.out.below h0) (HE.out.below h0) (HA.out.below h0) hxl hshape)
       have hj':¬ (j:Int)<(k:Int):=by omega
       obtain ⟨q0,q1,q2,q3,q4⟩:=hbox
       clear hrz hpt hfull hargs hSH HBX0 hlen
       by_cases hr:1≤positives x.pats∧positives x.pats≤3
       ·have HC1:Hid (chk1 (rs.take k) x=match scope x with | some i=>(4,(i:Int)) | none=>match refs x with | some i=>(5,(i:Int)) | none=>(0,0)):=show chk1 (rs.take k) x=_ from by
         unfold chk1
         rw [hshape]
         simp only
         rw [HANY.out,if_neg (by decide),if_pos hr]
         cases scope x with
         | some i=>rfl
         | none=>cases refs x <;> rfl
        have r0:¬ (positives x.pats:Int)<1:=by omega
        have r1:¬ (3:Int)<(positives x.pats:Int):=by omega
        cases hsc:scope x with
        | some i=>
         rw [hsc] at hSC HC1
         simp only [zml] at hSC
         have hi0:(0:Int)≤(i:Int):=by omega
         have HX:Hid (chk rs=(4,(k:Int),(i:Int))):=show chk rs=_ from by rw [HG.out,HD.out,zbo,HC1.out,if_neg (by simp)]
         exact (zdQ H0 HX (by decide)).elim
        | none=>
         rw [hsc] at hSC HC1
         simp only [zml] at hSC
         simp only at HC1
         go_wp2_with (first | (go_at_call 117;refine (hPO.out _ hbo).mono ?_;rintro e w2 ⟨rfl,hb2⟩;obtain ⟨s0,s1,s2,s3,s4⟩:=HBX.out.below hb2;have hb2':=hbo.trans (hb2.mono hbo.size);obtain ⟨y0,y1,y2,f0,f1,f2⟩:=(HRZ2.out.below hb2).get) | (go_at_call 118;refine (hSC.out _ hb2').mono ?_;rintro e w3 ⟨rfl,hb3⟩;obtain ⟨t0,t1,t2,t3,t4⟩:=(HBX.out.below hb2).below hb3;have hb3':=hb2'.trans (hb3.mono hb2'.size);obtain ⟨v0,v1,v2,g0,g1,g2⟩:=((HRZ2.out.below hb2).below hb3).get) | fail)
         have hbx3:=(HBX.out.below hb2).below hb3
         have hrz3:=(HRZ2.out.below hb2).below hb3
         clear q0 q1 q2 q3 q4 s0 s1 s2 s3 s4 t0 t1 t2 t3 t4 y0 y1 y2 f0 f1 f2 v0 v1 v2 g0 g1 g2 hb2 hb3 hb2' hPO hSC r0 r1 hbw hbo
         go_loopw [65] (fun i wr'=>∃ (m:Nat),m≤x.acts.length∧i=.int .i64 m∧refs x=zaB (zbe (positives x.pats)) (x.acts.drop m) (x.pats.length+1+m)∧zb8 wr' wo.heap.size x a_pats c_pats a_exprs c_exprs a_acts c_acts∧RzY w.heap.size wr'∧Below wo.heap.size wo wr') (fun i _=>x.acts.length - (intOf i).toNat)
         case atStart=>exact ⟨0,by omega,rfl,rfl,hbx3,hrz3,hb3'⟩
         case round=>
          clear hbx3 hrz3 hb3'
          obtain ⟨m,hm,rfl,hM,hbox3,hrz3,hbo3⟩:=hrel
          have HM:=zkQ hM
          have HBX3:=zkQ hbox3
          have HRZ3:=zkQ hrz3
          clear hM hrz3
          have hbw3:Below w.heap.size w wr:=hb.trans (hbo3.mono hb.size)
          by_cases hml:m<x.acts.length
          ·obtain ⟨y,hyk⟩:∃ y,x.acts[m]?=some y:=⟨x.acts[m],by simp [hml]⟩
           obtain ⟨b4,o4,a_args,c_args,ee,hq,c0,c1,c2,c3,h_args⟩:=(HA.out.below hbo3).get hyk
           subst ee
           have HDM:Hid (x.acts.drop m=y :: x.acts.drop (m+1)):=zak hyk
           have R1:∀ o,Below wr.heap.size wr (wr.alloc o):=fun o=>(Below.refl _ _).alloc (Nat.le_refl _) _
           have q2':=fun o=>zaa (R1 o) hbox3.2.2.1
           clear hbox3
           by_cases hkd:y.kind=2∨y.kind=3
           ·rcases hkd with hkd | hkd
            all_goals rw [hkd] at c0
            ·by_cases k1:y.k<1
             ·have HX:Hid (chk rs=(5,(k:Int),((x.pats.length+1+m:Nat):Int))):=show chk rs=_ from by
               have h1:refs x=some (x.pats.length+1+m):=by rw [HM.out,HDM.out,zax,show zbe (positives x.pats) y=false by simp [zbe,hkd];omega];rfl
               rw [HG.out,HD.out,zbo,HC1.out,h1,if_neg (by simp)]
              exact (zdQ H0 HX (by decide)).elim
             ·by_cases k2:(positives x.pats:Int)<y.k
              ·have HX:Hid (chk rs=(5,(k:Int),((x.pats.length+1+m:Nat):Int))):=show chk rs=_ from by
                have h1:refs x=some (x.pats.length+1+m):=by rw [HM.out,HDM.out,zax,show zbe (positives x.pats) y=false by simp [zbe,hkd];omega];rfl
                rw [HG.out,HD.out,zbo,HC1.out,h1,if_neg (by simp)]
               exact (zdQ H0 HX (by decide)).elim
              ·have HX:Hid (refs x=zaB (zbe (positives x.pats)) (x.acts.drop (m+1)) (x.pats.length+1+(m+1))):=show refs x=_ from by rw [HM.out,HDM.out,zax,show zbe (positives x.pats) y=true by simp [zbe];omega];rfl
               go_wp2
               go_roundw
               case rel=>exact ⟨m+1,by omega,by go_num,HX.out,HBX3.out.below (R1 _),HRZ3.out.below (R1 _),hbo3.alloc hbo3.size _⟩
               case measure=>simp [intOf];omega
            ·by_cases k1:y.k<1
             ·have HX:Hid (chk rs=(5,(k:Int),((x.pats.length+1+m:Nat):Int))):=show chk rs=_ from by
               have h1:refs x=some (x.pats.length+1+m):=by rw [HM.out,HDM.out,zax,show zbe (positives x.pats) y=false by simp [zbe,hkd];omega];rfl
               rw [HG.out,HD.out,zbo,HC1.out,h1,if_neg (by simp)]
              exact (zdQ H0 HX (by decide)).elim
             ·by_cases k2:(positives x.pats:Int)<y.k
              ·have HX:Hid (chk rs=(5,(k:Int),((x.pats.length+1+m:Nat):Int))):=show chk rs=_ from by
                have h1:refs x=some (x.pats.length+1+m):=by rw [HM.out,HDM.out,zax,show zbe (positives x.pats) y=false by simp [zbe,hkd];omega];rfl
                rw [HG.out,HD.out,zbo,HC1.out,h1,if_neg (by simp)]
               exact (zdQ H0 HX (by decide)).elim
              ·have HX:Hid (refs x=zaB (zbe (positives x.pats)) (x.acts.drop (m+1)) (x.pats.length+1+(m+1))):=show refs x=_ from by rw [HM.out,HDM.out,zax,show zbe (positives x.pats) y=true by simp [zbe];omega];rfl
               go_wp2
               go_roundw
               case rel=>exact ⟨m+1,by omega,by go_num,HX.out,HBX3.out.below (R1 _),HRZ3.out.below (R1 _),hbo3.alloc hbo3.size _⟩
               case measure=>simp [intOf];omega
           ·have hk2:¬ y.kind=2:=fun h=>hkd (.inl h)
            have hk3:¬ y.kind=3:=fun h=>hkd (.inr h)
            have HX:Hid (refs x=zaB (zbe (positives x.pats)) (x.acts.drop (m+1)) (x.pats.length+1+(m+1))):=show refs x=_ from by rw [HM.out,HDM.out,zax,show zbe (positives x.pats) y=true by simp [zbe,hk2,hk3]];rfl
            go_wp2
            go_roundw
            case rel=>exact ⟨m+1,by omega,by go_num,HX.out,HBX3.out.below (R1 _),HRZ3.out.below (R1 _),hbo3.alloc hbo3.size _⟩
            case measure=>simp [intOf];omega
          ·have h1:refs x=none:=by rw [HM.out,List.drop_eq_nil_of_le (by omega)];rfl
           have HX:Hid (chk rs=zcV (rs.take (k+1)) (rs.drop (k+1)) (k+1)):=show chk rs=_ from by rw [HG.out,HD.out,zbo,HC1.out,h1,if_pos rfl,HT.out]
           clear hbox3 h1
           go_wp2
           go_roundw
           case rel=>exact ⟨k+1,by omega,by go_num,HX.out,HRZ3.out,hbw3⟩
           case measure=>simp [intOf];omega
       ·have HC1:Hid (chk1 (rs.take k) x=(3,0)):=show chk1 (rs.take k) x=_ from by
         unfold chk1
         rw [hshape]
         simp only
         rw [HANY.out,if_neg (by decide),if_neg hr]
        have HX:Hid (chk rs=(3,(k:Int),0)):=show chk rs=_ from by rw [HG.out,HD.out,zbo,HC1.out,if_neg (by simp)]
        exact (zdQ H0 HX (by decide)).elim
   ·obtain ⟨y0,y1,y2,f0,f1,f2⟩:=hrz.get
    go_wp2
    refine bodyPost_ret (v:=.agg #[.int .i64 0,.int .i64 0,.int .i64 0]) (by simp [results,Tryz.results81,go_sem,y0,y1,y2]) rfl ⟨rfl,?_⟩
    exact ((hb.setCell (Nat.le_refl _) _).setCell (Nat.le_refl _) _).setCell (Nat.le_refl _) _
set_option maxHeartbeats 800000 in
theorem zd0 (rs:List Ru) (a:Option Addr) (c:Nat) {q:Option Nat} (w:World) (hv:zbR q w a rs) (hc:rs.length≤c) (hle:zbu Ru.le 1048576 rs) (ho:∀ x∈rs,zdF x.exprs) (H0:(chk rs).1=0) :
  Calls Tryz.prog 46 #[.slice a rs.length c] w fun e w'=>e=.returned (.bool true)∧Below w.heap.size w w':=by
 have HC:=zkQ (zfa a c rs q w hv hc hle ho H0)
 unfold ckV at HC
 go_enter Tryz.func46,Tryz.ntmps46
 go_wp2_with (go_at_call 81;with_reducible refine HC.out.mono ?_;rintro e w1 ⟨rfl,hb1⟩)
 go_ret
 exact ⟨rfl,hb1⟩
end Go.Proofs.YtmmdlgjmplddiaaGreat
namespace Go.Proofs.YtmmdlgjmplddiaaGreat
open Go.RowKit
attribute [local go_sem ↓] Go.wp_at_zero Go.wp_at_succ
theorem zoX {rs:List Ru}{x y:In} (h:zaJ rs x=false∨zaJ rs y=false∨(chk rs).1≠0):bef rs x y=false:=by
 unfold bef
 rcases h with h | h | h <;> simp [h]
theorem zoy {rs:List Ru}{x y:In} (h1:zaJ rs x=true) (h2:zaJ rs y=true) (h3:(chk rs).1=0):bef rs x y=befI rs x y:=by
 unfold bef
 simp [h1,h2,h3]
set_option maxRecDepth 100000 in
set_option maxHeartbeats 3200000 in
theorem zda (rs:List Ru) (a:Option Addr) (c:Nat) (x y:In) (bx ox cx by' oy cy:Nat) (w:World) {q q1 q2:Option Nat} (hv:zbR q w a rs) (hc:rs.length≤c) (hle:zbu Ru.le 1048576 rs) (ho:∀ x∈rs,zdF x.exprs)
  (hx:zas q1 w (some ⟨bx,ox,none⟩) x.tags) (hy:zas q2 w (some ⟨by',oy,none⟩) y.tags) (hlx:x.tags.length≤1048576) (hly:y.tags.length≤1048576) :
  Calls Tryz.prog 18 #[.slice a rs.length c,.agg #[.int .i64 x.rule,.slice (some ⟨bx,ox,none⟩) x.tags.length cx],.agg #[.int .i64 y.rule,.slice (some ⟨by',oy,none⟩) y.tags.length cy]] w fun e w'=>e=.returned (.bool (bef rs x y))∧Below w.heap.size w w':=by
 have hl:rs.length≤1048576:=hle.1
 have B2:∀ o o',Below w.heap.size w ((w.alloc o).alloc o'):=fun o o'=>((Below.refl _ _).alloc (Nat.le_refl _) _).alloc (by simp) _
 have HCK:=hidB (fun o o'=>zcz a c rs ((w.alloc o).alloc o') (hv.below (B2 o o')) hc hle ho)
 have HPX:=hidB (fun W=>zel rs a c x (some ⟨bx,ox,none⟩) cx W hl hlx)
 have HPY:=hidB (fun W=>zel rs a c y (some ⟨by',oy,none⟩) cy W hl hly)
 have HNO:=hidB (zoX (rs:=rs) (x:=x) (y:=y))
 unfold ckV at HCK
 generalize hp0:(chk rs).1=p0 at HCK
 generalize (chk rs).2.1=p1 at HCK
 generalize (chk rs).2.2=p2 at HCK
 have hfd:∀ w:World,(Instr.field 93 (.agg #[.int .i64 p0,.int .i64 p1,.int .i64 p2]) 0).run Tryz.prog w=.ok (.int .i64 p0) w:=fun _=>by kernel_rfl
 by_cases hp:p0=0
 ·subst hp
  cases h1:zaJ rs x
  ·rw [h1] at HPX
   have HF:=hidB (HNO.out (.inl h1))
   go_enter Tryz.func18,Tryz.ntmps18
   go_wp2_with (first | (go_at_call 30;with_reducible refine (HCK.out _ _).mono ?_;rintro e w1 ⟨rfl,hb1⟩;have x0:=zaa hb1 (p:=⟨w.heap.size,0,none⟩) (x:=.int .i64 x.rule) (by simp [go_sem]);have x1:=zaa hb1 (p:=⟨w.heap.size,1,none⟩) (x:=.slice (some ⟨bx,ox,none⟩) x.tags.length cx) (by simp [go_sem]);have y0:=zaa hb1 (p:=⟨w.heap.size+1,0,none⟩) (x:=.int .i64 y.rule) (by simp [go_sem]);have y1:=zaa hb1 (p:=⟨w.heap.size+1,1,none⟩) (x:=.slice (some ⟨by',oy,none⟩) y.tags.length cy) (by simp [go_sem])) | (go_at_call 39;with_reducible refine (HPX.out _).mono ?_;rintro e w2 ⟨rfl,hb2⟩;have z0:=zaa hb2 y0;have z1:=zaa hb2 y1;have z2:=zaa hb2 x0;have z3:=zaa hb2 x1))
   go_ret
   exact ⟨zac HF.out.symm,(B2 _ _).trans ((hb1.trans (hb2.mono hb1.size)).mono (by simp;omega))⟩
  ·cases h2:zaJ rs y
   ·rw [h1] at HPX
    rw [h2] at HPY
    have HF:=hidB (HNO.out (.inr (.inl h2)))
    go_enter Tryz.func18,Tryz.ntmps18
    go_wp2_with (first | (go_at_call 30;with_reducible refine (HCK.out _ _).mono ?_;rintro e w1 ⟨rfl,hb1⟩;have x0:=zaa hb1 (p:=⟨w.heap.size,0,none⟩) (x:=.int .i64 x.rule) (by simp [go_sem]);have x1:=zaa hb1 (p:=⟨w.heap.size,1,none⟩) (x:=.slice (some ⟨bx,ox,none⟩) x.tags.length cx) (by simp [go_sem]);have y0:=zaa hb1 (p:=⟨w.heap.size+1,0,none⟩) (x:=.int .i64 y.rule) (by simp [go_sem]);have y1:=zaa hb1 (p:=⟨w.heap.size+1,1,none⟩) (x:=.slice (some ⟨by',oy,none⟩) y.tags.length cy) (by simp [go_sem])) | (go_at_call 39;with_reducible refine (HPX.out _).mono ?_;rintro e w2 ⟨rfl,hb2⟩;have z0:=zaa hb2 y0;have z1:=zaa hb2 y1;have z2:=zaa hb2 x0;have z3:=zaa hb2 x1) | (go_at_call 39;with_reducible refine (HPY.out _).mono ?_;rintro e w3 ⟨rfl,hb3⟩;have v0:=zaa hb3 z0;have v1:=zaa hb3 z1;have v2:=zaa hb3 z2;have v3:=zaa hb3 z3))
    go_ret
    exact ⟨zac HF.out.symm,(B2 _ _).trans (((hb1.trans (hb2.mono hb1.size)).trans (hb3.mono (Nat.le_trans hb1.size hb2.size))).mono (by simp;omega))⟩
   ·rw [h1] at HPX
    rw [h2] at HPY
    have HF:=hidB (zoy h1 h2 hp0)
    have HH1:=hidB h1
    have HH2:=hidB h2
    have HV:=hidB hv
    have HX:=hidB hx
    have HY:=hidB hy
    clear hv hx hy h1 h2
    go_enter Tryz.func18,Tryz.ntmps18
    go_wp2_with (first | (go_at_call 30;with_reducible refine (HCK.out _ _).mono ?_;rintro e w1 ⟨rfl,hb1⟩;have x0:=zaa hb1 (p:=⟨w.heap.size,0,none⟩) (x:=.int .i64 x.rule) (by simp [go_sem]);have x1:=zaa hb1 (p:=⟨w.heap.size,1,none⟩) (x:=.slice (some ⟨bx,ox,none⟩) x.tags.length cx) (by simp [go_sem]);have y0:=zaa hb1 (p:=⟨w.heap.size+1,0,none⟩) (x:=.int .i64 y.rule) (by simp [go_sem]);have y1:=zaa hb1 (p:=⟨w.heap.size+1,1,none⟩) (x:=.slice (some ⟨by',oy,none⟩) y.tags.length cy) (by simp [go_sem])) | (go_at_call 39;with_reducible refine (HPX.out _).mono ?_;rintro e w2 ⟨rfl,hb2⟩;have z0:=zaa hb2 y0;have z1:=zaa hb2 y1;have z2:=zaa hb2 x0;have z3:=zaa hb2 x1) | (go_at_call 39;with_reducible refine (HPY.out _).mono ?_;rintro e w3 ⟨rfl,hb3⟩;have v0:=zaa hb3 z0;have v1:=zaa hb3 z1;have v2:=zaa hb3 z2;have v3:=zaa hb3 z3))
    have hB3:Below w.heap.size w w3:=(B2 _ _).trans (((hb1.trans (hb2.mono hb1.size)).trans (hb3.mono (Nat.le_trans hb1.size hb2.size))).mono (by simp;omega))
    have hD:Below w.heap.size w w3.drew:=hB3.drew
    have HN1:=hidB (zeA rs a c x bx ox cx w3.drew (HV.out.below hD) (HX.out.below hD) HH1.out hl)
    have HN2:=hidB (fun w4 (h4:Below w.heap.size w w4)=>zeA rs a c y by' oy cy w4 (HV.out.below h4) (HY.out.below h4) HH2.out hl)
    have hsz3:=hB3.size
    clear HCK HPX HPY hb1 hb2 hb3 x0 x1 y0 y1 z0 z1 z2 z3 HNO hfd
    go_region_held3 (fun w'=>w'.cell? ⟨w.heap.size,0,none⟩=some (.int .i64 x.rule)∧w'.cell? ⟨w.heap.size,1,none⟩=some (.slice (some ⟨bx,ox,none⟩) x.tags.length cx)∧w'.cell? ⟨w.heap.size+1,0,none⟩=some (.int .i64 y.rule)∧w'.cell? ⟨w.heap.size+1,1,none⟩=some (.slice (some ⟨by',oy,none⟩) y.tags.length cy)) (first | (go_split_ands;(refine ⟨?_,?_,?_,?_⟩ <;> first | with_reducible assumption | (simp [*];done) | with_reducible exact zaa hb4 (by assumption) | with_reducible exact zaa hb5 (by assumption) | with_reducible exact zaa hb6 (by assumption));done) | fail)
     (first
      | (go_at_call 41;with_reducible refine HN1.out.mono ?_;rintro e w4 ⟨⟨a1,c1,a2,c2,rfl,i1,i2⟩,hb4⟩;have hB4:Below w.heap.size w w4:=hD.trans (hb4.mono hD.size))
      | (go_at_call 41;with_reducible refine (HN2.out w4 hB4).mono ?_;rintro e w5 ⟨⟨b1,d1,b2,d2,rfl,j1,j2⟩,hb5⟩)
      | (go_at_call 44;with_reducible refine (zhX rs x y a1 a2 b1 b2 c1 c2 d1 d2 w5 (i1.below hb5) (i2.below hb5) j1 j2 hlx hly).mono ?_;rintro e w6 ⟨rfl,hb6⟩)
      | fail)
    go_wp2_with fail
    go_ret
    exact ⟨zac HF.out.symm,(hB4.trans (hb5.mono hB4.size)).trans (hb6.mono (by have:=hB4.size;have:=hb5.size;omega))⟩
 ·have HF:=hidB (HNO.out (.inr (.inr (by rw [hp0];exact hp))))
  go_enter Tryz.func18,Tryz.ntmps18
  go_wp2_with (first | (go_at_call 30;with_reducible refine (HCK.out _ _).mono ?_;rintro e w1 ⟨rfl,hb1⟩;have x0:=zaa hb1 (p:=⟨w.heap.size,0,none⟩) (x:=.int .i64 x.rule) (by simp [go_sem]);have x1:=zaa hb1 (p:=⟨w.heap.size,1,none⟩) (x:=.slice (some ⟨bx,ox,none⟩) x.tags.length cx) (by simp [go_sem]);have y0:=zaa hb1 (p:=⟨w.heap.size+1,0,none⟩) (x:=.int .i64 y.rule) (by simp [go_sem]);have y1:=zaa hb1 (p:=⟨w.heap.size+1,1,none⟩) (x:=.slice (some ⟨by',oy,none⟩) y.tags.length cy) (by simp [go_sem])))
  go_ret
  exact ⟨zac HF.out.symm,(B2 _ _).trans (hb1.mono (by simp;omega))⟩
end Go.Proofs.YtmmdlgjmplddiaaGreat
