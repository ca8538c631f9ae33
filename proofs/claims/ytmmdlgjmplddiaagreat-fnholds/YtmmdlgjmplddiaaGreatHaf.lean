/-
  OUR OWN TEXT. Dw5, Dw6, one behind the other.
-/
import Derived.Test.YtmmdlgjmplddiaaGreatDw4m
import Derived.Laws.BytesArg
import Derived.Test.YtmmdlgjmplddiaaGreatDw4hm
import Derived.Test.YtmmdlgjmplddiaaGreatHaa
namespace Go.Proofs.YtmmdlgjmplddiaaGreat
open Go.RowKit
attribute [local go_sem ↓] Go.wp_at_zero Go.wp_at_succ
theorem zfG (K:List ByteArray) (g b base:Nat) (x0 x1 x2 x4:Value) (ka:Option Addr) (kn kc:Nat) (hgb:g<b) (hbb:b<base):∀ (d:Nat),d≤8→∀ (a:Option Addr) (c:Nat) (xs:List Ex) (w:World),Rdr w g→QB w b base x0 x1 x2 x4 a c xs→ze1 K w g b base ka kn→base≤w.heap.size→xs.length+fD d≤100000 →
  Calls Tryz.prog 148 #[.pointer (some ⟨g,0,none⟩),.pointer (some ⟨b,0,none⟩),.slice ka kn kc,.int .i64 (d:Int)] w (QPost K g b base x0 x1 x2 x4 a c xs d w):=by
 intro d
 induction d with
 | zero=>exact fun hd a c xs w h hq hk hbase hlen=>zhQ K g b base x0 x1 x2 x4 ka kn kc hgb hbb 0 a c xs w hd h hq hk hbase hlen (fun d' e=>by omega)
 | succ d ih=>exact fun hd a c xs w h hq hk hbase hlen=>zhQ K g b base x0 x1 x2 x4 ka kn kc hgb hbb (d+1) a c xs w hd h hq hk hbase hlen (fun d' e=>by obtain rfl:d=d':=(by omega);exact ih (by omega))
theorem zld (c:Int) (w:World) (b:Nat) (h:w.cell? ⟨b,0,none⟩=some (.int .u8 c)):(convert 22 9 (.slice (some ⟨b,0,none⟩) 1 1)).run Tryz.prog w=.ok (.string (strOfNums [c])) w:=
 run_convert_bytes_arg (P:=Tryz.prog) _ 22 5 Tryz.underlying22 Tryz.underlying5 b 0 1 1 [c] rfl (fun i hi=>by
  obtain rfl:i=0:=by omega
  simpa using h) 9 Tryz.underlying9
def digB (k:Nat):ByteArray:=⟨#[UInt8.ofNat (48+k)]⟩
theorem znc (k:Nat) (hk:k<10):strOfNums [48+((k:Int) % 10)] ++ (⟨#[]⟩:ByteArray)=digB k:=by
 have:∀ k:Fin 10,strOfNums [48+(((k.val:Nat):Int) % 10)] ++ (⟨#[]⟩:ByteArray)=digB k.val:=by decide
 exact this ⟨k,hk⟩
set_option maxHeartbeats 1600000 in
theorem zkD (k:Nat) (w:World) (hk:k<10):Calls Tryz.prog 119 #[.int .i64 (k:Int)] w fun e w'=>e=.returned (.string (digB k))∧Below w.heap.size w w':=by
 have hk0:¬ (k:Int)<0:=by omega
 have HC:=hidR zld
 go_enter Tryz.func119,Tryz.ntmps119
 go_wp2
 go_loopw [0,4,5] (fun nv sv fv wr=>(nv=.int .i64 (k:Int)∧sv=.string ⟨#[]⟩∧fv=.bool true∧wr=w)∨(nv=.int .i64 0∧sv=.string (digB k)∧fv=.bool false∧Below w.heap.size w wr)) (fun _ _ fv _=>match fv with | .bool true=>1 | _=>0)
 case atStart=>exact .inl ⟨rfl,rfl,rfl,rfl⟩
 case round=>
  rcases hrel with ⟨rfl,rfl,rfl,rfl⟩ | ⟨rfl,rfl,rfl,hb⟩
  ·have hcv:=HC.out
   go_wp2
   refine ⟨.inr ⟨by rw [show (k:Int) / 10=0 by omega],?_,rfl,(Below.refl _ _).alloc (Nat.le_refl _) _⟩,by simp⟩
   exact congrArg Value.string (znc k hk)
  ·go_wp2
   go_ret
   exact ⟨rfl,hb⟩
theorem zlL:(Tryz.prog.info? 3).map (fun i=>(i.zero,i.size,i.bytes))=some (some (.int .i64 0),1,8):=by kernel_rfl
def argN:List Int:=[1,2,1,2,3,0]
theorem zmM (k:Nat) (hk:k<6):∃ n:Nat,n≤3∧argN[k]?=some (n:Int):=by
 have:k=0∨k=1∨k=2∨k=3∨k=4∨k=5:=by omega
 rcases this with rfl | rfl | rfl | rfl | rfl | rfl
 ·exact ⟨1,by omega,rfl⟩
 ·exact ⟨2,by omega,rfl⟩
 ·exact ⟨1,by omega,rfl⟩
 ·exact ⟨2,by omega,rfl⟩
 ·exact ⟨3,by omega,rfl⟩
 ·exact ⟨0,by omega,rfl⟩
set_option maxRecDepth 100000 in
set_option maxHeartbeats 3200000 in
theorem zbM (K:List ByteArray) (m:Nat) (g b base:Nat) (x0 x1 x2 x4:Value) (ka:Option Addr) (kn kc:Nat) (hgb:g<b) (hbb:b<base) (a:Option Addr) (c:Nat) (xs:List Ex) (w:World) (h:Rdr w g) (hq:QB w b base x0 x1 x2 x4 a c xs) (hk:ze1 K w g b base ka kn) (hbase:base≤w.heap.size) (hm1:xs.length≤7 * m) (hm2:xs.length≤50+m) (hm:m≤100) :
  Calls Tryz.prog 122 #[.pointer (some ⟨g,0,none⟩),.pointer (some ⟨b,0,none⟩),.slice ka kn kc] w fun e w'=>∃ ao co zs a' c' xs' ys,e=.returned (.slice ao zs.length co)∧w'.ownsRow w.heap.size 3 1 (.slice ao zs.length co) zs.length ((zs:List Int).map (Value.int .i64))∧QB w' b base x0 x1 x2 x4 a' c' xs'∧(xs'=xs ++ ys∧Trees K xs.length ys zs∧zs.length≤3∧xs'.length≤7 * (m+zs.length)∧xs'.length≤50+(m+zs.length))∧Qs g b (Value.slice a xs.length c).ownBlock w w'∧zcA w.heap.size (Value.slice a xs.length c).ownBlock (Value.slice a' xs'.length c').ownBlock:=by
 have H:=hidR h
 have HQ:=hidR hq
 have HK:=hidR hk
 have hlt:=h.lt
 have hbl:b<w.heap.size:=zab hq.1
 clear h hq hk
 have HA:=hidR (fun o=>(Below.refl _ _).alloc (Nat.le_refl _) o:∀ o,Below w.heap.size w (w.alloc o))
 have HR:=hidR (fun o=>H.out.bel (HA.out o))
 go_enter Tryz.func122,Tryz.ntmps122
 go_wp2_with fail
 refine (zbf g _ (HR.out _)).mono ?_
 rintro e w1 ⟨u,hu,rfl,hr⟩
 have HT:=hidR (zaC hr (heap_alloc_new _ _) (by omega))
 have hs1:w.heap.size<w1.heap.size:=zab HT.out
 obtain ⟨k,hkd⟩:∃ k,k=u % 6:=⟨_,rfl⟩
 have hk6:k<6:=by omega
 have hki:(u:Int) % 6=(k:Int):=by omega
 have hkI:(k:Int)<6:=by omega
 have hk0:(0:Int)≤(k:Int):=by omega
 obtain ⟨n0,hn3,hat⟩:=zmM k hk6
 have hcell:w1.cell? ⟨w.heap.size,k,none⟩=some (.int .i64 (n0:Int)):=by
  have hb:=HT.out
  have:k=0∨k=1∨k=2∨k=3∨k=4∨k=5:=by omega
  rcases this with rfl | rfl | rfl | rfl | rfl | rfl <;> simp [argN] at hat <;> simp [World.cell?,hb,← hat]
 have HQ1:=hidR ((HQ.out.bel (HA.out _)).rs hr (by omega) (by omega))
 have hQs1:=hidR (Qs.of (b:=b) (o:=(Value.slice a xs.length c).ownBlock) ((Rs.of H.out (HA.out _)).trans hr))
 clear hr hkd hat HT HA HR H
 go_wp2_with fail
 clear hcell hki
 go_loopw [7,8] (fun ov nv wr=>∃ (j:Nat) (ao:Option Addr) (co:Nat) (zs:List Int) (a':Option Addr) (c':Nat) (xs' ys:List Ex),nv=.int .i64 (j:Int)∧ov=.slice ao zs.length co∧zs.length+j=n0∧wr.ownsRow w.heap.size 3 1 (.slice ao zs.length co) zs.length (zs.map (Value.int .i64))∧QB wr b base x0 x1 x2 x4 a' c' xs'∧(xs'=xs ++ ys∧Trees K xs.length ys zs∧xs'.length≤7 * (m+zs.length)∧xs'.length≤50+(m+zs.length))∧Qs g b (Value.slice a xs.length c).ownBlock w wr∧zcA w.heap.size (Value.slice a xs.length c).ownBlock (Value.slice a' xs'.length c').ownBlock) (fun _ nv _=>(intOf nv).toNat)
 case atStart=>exact ⟨n0,none,0,[],a,c,xs,[],rfl,rfl,by simp,World.ownsRow_nil _ _ _ _,HQ1.out,⟨by simp,rfl,by simpa using hm1,by simpa using hm2⟩,hQs1.out,zcA.refl _ _⟩
 case round=>
  obtain ⟨j,ao,co,zs,a',c',xs',ys,rfl,rfl,hj,hown,hQ,⟨hxe,hxt,hx7,hx5⟩,hQs,hN⟩:=hrel
  have HXE:=hidR (And.intro hxe hxt)
  clear hxe hxt
  by_cases hj0:j=0
  ·subst hj0
   go_wp2_with fail
   go_ret
   exact ⟨ao,co,zs,a',c',xs',ys,rfl,hown,hQ,⟨HXE.out.1,HXE.out.2,by omega,hx7,hx5⟩,hQs,hN⟩
  ·have hj1:(0:Int)<(j:Int):=by omega
   have hsz:=hQs.rest.size
   have hf2:fD 2=7:=rfl
   have HC:=hidR (zfG K g b base x0 x1 x2 x4 ka kn kc hgb hbb 2 (by omega) a' c' xs' wr hQs.rdr hQ (HK.out.qs hQs (fun k hk=>(HQ.out.2.1.lt k hk).1)) (by omega) (by rw [hf2];omega))
   have HO:=hidR hown
   have HQr:=hidR hQ
   have HQs2:=hidR hQs
   have HN2:=hidR hN
   clear hown hQ hQs hN HQ1 hQs1
   go_wp2_with fail
   refine HC.out.mono ?_
   rintro e w2 ⟨a2,c2,xs2,hQ2,hl1,hl2,rfl,hq2,hn2,ht2,hb2⟩
   rw [hf2] at hl2
   have HT2:=hidR ht2
   clear ht2
   have HQ3:=hidR hQ2
   have HO2:=hidR (zkK (t:=240) HO.out hq2 (by omega) (by omega) (fun k hk=>zah HQr.out.2.1 hk) (by decide))
   have HQs3:=hidR (HQs2.out.trans hq2 HN2.out)
   have HN3:=hidR (HN2.out.trans hn2 (by omega))
   have hs2:=hq2.rest.size
   have HA2:=hidR (fun o=>(Below.refl _ _).alloc (Nat.le_refl _) o:∀ o,Below w2.heap.size w2 (w2.alloc o))
   have HO3:=hidR (fun o=>zaf HO2.out (fun k hk=>(HA2.out o).block k (HO2.out.lt k hk).2))
   clear hQ2 hq2 hn2 HC HO HQr HQs2 HN2
   go_wp2_with (first | (at_builtin;refine zae (by rfl) (.tmp 19) (.tmp 24) 39 (by rfl) w.heap.size 3 _ 1 8 Tryz.underlying39 zlL (by rfl) (by omega) _ zs.length _ (by rfl) (HO3.out _) (some ⟨_,0,none⟩) 1 1 (by rfl) [.int .i64 ((xs2.length:Int) - 1)] (by rfl) (fun e=>by cases e) (zaw _ _ _ _ (by simp)) (by intro u hu;simp at hu;subst hu;rfl) (by unfold maxLen;omega) (by omega) (by simp;omega) ?_;intro a3 c3 w3 ho3 hg3 hl3) | fail)
   go_roundw
   case rel=>
    obtain ⟨TY,hte,htt⟩:=HT2.out
    obtain ⟨hxe,hxt⟩:=HXE.out
    refine ⟨j - 1,a3,c3,zs ++ [(xs2.length:Int) - 1],a2,c2,xs2,ys ++ TY,?_,by simp,by simp;omega,by simpa using ho3.out,(HQ3.out.bel (HA2.out _)).grown (t:=3) hg3.out (fun k hk=>zah (HO3.out _) hk) (by decide) (by decide),⟨by rw [hte,hxe,List.append_assoc],?_,by simp;omega,by simp;omega⟩,(HQs3.out.bel (HA2.out _)).grown hg3.out (fun k hk=>(HO2.out.lt k hk).1) hlt,HN3.out⟩
    ·rw [show ((j - 1:Nat):Int)=(j:Int) - 1 by omega]
    ·have:=Trees.snoc hxt (B:=TY) (by rw [hxe] at htt;simpa using htt)
     have e:xs2.length=xs.length+ys.length+TY.length:=by rw [hte,hxe];simp [Nat.add_assoc]
     rw [e]
     exact this
   case measure=>(simp [intOf];omega)
end Go.Proofs.YtmmdlgjmplddiaaGreat
namespace Go.Proofs.YtmmdlgjmplddiaaGreat
open Go.RowKit
theorem zho {w w':World}{base g:Nat}{e:TypeId}{m:Nat}{v:Value}{n:Nat}{xs:List Value} (h:w.ownsRow base e m v n xs) (hr:Rs g w w') (hg:g<base):w'.ownsRow base e m v n xs:=
 zaf h fun k hk=>hr.1.block k (h.lt k hk).2 (fun e=>by injection e with e;have:=(h.lt k hk).1;omega)
theorem zm5 {w w':World}{base g:Nat}{e:TypeId}{m:Nat}{v:Value}{n:Nat}{xs:List Value} (h:w.ownsRow base e m v n xs) (hr:Rs g w w') (hg:Rdr w g) (hne:e≠64):w'.ownsRow base e m v n xs:=
 zaf h fun k hk=>hr.1.block k (h.lt k hk).2 (fun e=>by
  injection e with e
  subst e
  obtain ⟨c,hc⟩:=zah h hk
  obtain ⟨_,_,_,_,h1,_⟩:=hg
  exact zaF hc h1 hne)
theorem Rs.grown {g:Nat}{row:Option Nat}{u v w:World} (h:Rs g u v) (hg:v.grownBy w row) (hr:∀ k,row=some k→u.heap.size≤k) (hgu:g<u.heap.size):Rs g u w:=
 ⟨⟨h.1.rest.grown hg (Nat.zero_le _) (fun _ _=>Nat.zero_le _),fun k hk hne=>(hg.block k (Nat.lt_of_lt_of_le hk h.1.rest.size) (fun e=>by have:=hr k e.symm;omega)).trans (h.1.block k hk hne)⟩,h.2.old ((Below.refl _ _).grown hg (by have:=h.1.rest.size;omega) (fun k hk=>by have:=hr k hk;omega))⟩
abbrev PtV:=Pt × Value
def pcells (x:PtV):List Value:=[.bool x.1.neg,.string x.1.cls,x.2]
theorem zjl (x:PtV) (h:x.2.oneCell'=true):∀ u∈pcells x,u.oneCell'=true:=by
 intro u hu
 simp [pcells] at hu
 rcases hu with rfl | rfl | rfl
 ·rfl
 ·rfl
 ·exact h
def PtX (w:World) (base:Nat) (x:PtV):Prop:=(∃ a c,x.2=.slice a x.1.terms.length c)∧w.ownsRow base 115 6 x.2 x.1.terms.length (x.1.terms.flatMap za4)∧GCl x.1.cls∧x.1.terms.length≤3∧∀ t∈x.1.terms,TmSm t
def PO (w:World) (base:Nat) (a:Option Addr) (c:Nat) (L:List PtV):Prop:=w.ownsRow base 38 3 (.slice a L.length c) L.length (L.flatMap pcells)∧∀ x∈L,PtX w base x
theorem PO.nil (w:World) (base:Nat):PO w base none 0 []:=⟨World.ownsRow_nil _ _ _ _,fun x hx=>by simp at hx⟩
theorem PtX.rs {w w':World}{base g:Nat}{x:PtV} (h:PtX w base x) (hr:Rs g w w') (hg:g<base):PtX w' base x:=⟨h.1,zho h.2.1 hr hg,h.2.2⟩
theorem PO.rs {w w':World}{base g:Nat}{a:Option Addr}{c:Nat}{L:List PtV} (h:PO w base a c L) (hr:Rs g w w') (hg:g<base):PO w' base a c L:=⟨zho h.1 hr hg,fun x hx=>(h.2 x hx).rs hr hg⟩
theorem PtX.bel {w w':World}{base:Nat}{x:PtV} (h:PtX w base x) (hb:Below w.heap.size w w'):PtX w' base x:=⟨h.1,zai h.2.1 hb,h.2.2⟩
theorem PO.bel {w w':World}{base:Nat}{a:Option Addr}{c:Nat}{L:List PtV} (h:PO w base a c L) (hb:Below w.heap.size w w'):PO w' base a c L:=⟨zai h.1 hb,fun x hx=>(h.2 x hx).bel hb⟩
theorem PtX.grown {w w':World}{base:Nat}{t:TypeId}{x:PtV}{row:Option Nat} (h:PtX w base x) (hg:w.grownBy w' row) (ht:∀ k,row=some k→∃ c,w.heap[k]?=some (.cells c t (0,0))) (hne:t≠115):PtX w' base x:=⟨h.1,zby h.2.1 hg ht hne,h.2.2⟩
theorem PtX.set {w:World}{base b o:Nat}{t:TypeId}{x:PtV}{v:Value}{c:Array Value}{fr:Nat × Nat} (h:PtX w base x) (hb:w.heap[b]?=some (.cells c t fr)) (hne:t≠115):PtX (w.setCell ⟨b,o,none⟩ v) base x:=⟨h.1,zbI h.2.1 hb hne,h.2.2⟩
theorem PO.set {w:World}{base b o:Nat}{t:TypeId}{a:Option Addr}{c':Nat}{L:List PtV}{v:Value}{c:Array Value}{fr:Nat × Nat} (h:PO w base a c' L) (hb:w.heap[b]?=some (.cells c t fr)) (hne:t≠115) (hne2:t≠38):PO (w.setCell ⟨b,o,none⟩ v) base a c' L:=⟨zbI h.1 hb hne2,fun x hx=>(h.2 x hx).set hb hne⟩
theorem PO.snoc {w w':World}{base:Nat}{a a':Option Addr}{c c':Nat}{L:List PtV}{x:PtV} (h:PO w base a c L) (hx:PtX w base x) (ho:w'.ownsRow base 38 3 (.slice a' (L.length+1) c') (L.length+1) (L.flatMap pcells ++ pcells x)) (hg:w.grownBy w' (Value.slice a L.length c).ownBlock):PO w' base a' c' (L ++ [x]):=by
 refine ⟨by simpa using ho,fun y hy=>?_⟩
 have hy':PtX w base y:=by
  rcases List.mem_append.1 hy with hy | hy
  ·exact h.2 y hy
  ·simp at hy
   exact hy ▸ hx
 exact hy'.grown (t:=38) hg (fun k hk=>zah h.1 hk) (by decide)
def SO (K:List ByteArray) (w:World) (base:Nat) (a:Option Addr) (n c:Nat):Prop:=n≤1000∧∃ ks:List ByteArray,(ks=K∧ks.length=n)∧(∀ s∈ks,GNm s)∧w.ownsRow base 9 1 (.slice a n c) n (ks.map Value.string)
theorem SO.rs {K:List ByteArray}{w w':World}{base g:Nat}{a:Option Addr}{n c:Nat} (h:SO K w base a n c) (hr:Rs g w w') (hg:g<base):SO K w' base a n c:=by
 obtain ⟨h0,ks,h1,h2,h3⟩:=h
 exact ⟨h0,ks,h1,h2,zho h3 hr hg⟩
theorem SO.on {K:List ByteArray}{w:World}{base g:Nat}{a:Option Addr}{n c:Nat} (h:SO K w base a n c) (hg:g<base):zey K w g a n:=by
 obtain ⟨h0,ks,h1,h2,h3⟩:=h
 refine ⟨by omega,fun j hj=>?_⟩
 have hjk:j<ks.length:=by have:=h1.2;omega
 obtain ⟨k,rfl,hb,hc,_⟩:=zam h3 (j:=j) (x:=.string ks[j]) (by simp [hjk])
 exact ⟨k,0,ks[j],rfl,by omega,⟨(h2 _ (List.getElem_mem hjk)).1,(h2 _ (List.getElem_mem hjk)).2,by rw [← h1.1];exact List.getElem_mem hjk⟩,by rw [Nat.zero_add];exact hc⟩
theorem SO.q {K:List ByteArray}{w:World}{base g b B:Nat}{t:TypeId}{a:Option Addr}{n c:Nat}{cb:Array Value}{fr:Nat × Nat} (h:SO K w base a n c) (hg:g<base) (hb:w.heap[b]?=some (.cells cb t fr)) (hne:t≠9) (hB:w.heap.size≤B):ze1 K w g b B a n:=by
 obtain ⟨h0,ks,h1,h2,h3⟩:=h
 refine ⟨by omega,fun j hj=>?_⟩
 have hjk:j<ks.length:=by have:=h1.2;omega
 obtain ⟨k,rfl,hb',hc,_⟩:=zam h3 (j:=j) (x:=.string ks[j]) (by simp [hjk])
 obtain ⟨c',hc'⟩:=zah h3 (k:=k) rfl
 refine ⟨k,0,ks[j],rfl,by omega,fun e=>?_,?_,⟨(h2 _ (List.getElem_mem hjk)).1,(h2 _ (List.getElem_mem hjk)).2,by rw [← h1.1];exact List.getElem_mem hjk⟩,by rw [Nat.zero_add];exact hc⟩
 ·subst e
  exact zaF hb hc' hne
 ·have:=zab hc'
  omega
def Same (T:List TypeId) (base:Nat) (w w':World):Prop:=∀ k t c,base≤k→w.heap[k]?=some (.cells c t (0,0))→t∈T→w'.heap[k]?=w.heap[k]?
theorem zbC {T:List TypeId}{base:Nat}{w w':World}{e:TypeId}{m:Nat}{v:Value}{n:Nat}{xs:List Value} (h:w.ownsRow base e m v n xs) (hs:Same T base w w') (he:e∈T):w'.ownsRow base e m v n xs:=by
 refine zaf h fun k hk=>?_
 obtain ⟨c,hc⟩:=zah h hk
 exact hs k e c (h.lt k hk).1 hc he
theorem Same.bel {T:List TypeId}{base:Nat}{w w':World} (hb:Below w.heap.size w w'):Same T base w w':=fun k _ _ _ hk _=>hb.block k (zab hk)
theorem Same.rs {T:List TypeId}{base g:Nat}{w w':World} (hr:Rs g w w') (hg:g<base):Same T base w w':=fun k _ _ hb hk _=>hr.1.block k (zab hk) (fun e=>by injection e with e;omega)
theorem Same.rsT {T:List TypeId}{base g:Nat}{w w':World} (hr:Rs g w w') (hg:Rdr w g) (hT:64 ∉ T):Same T base w w':=fun k t c hb hk ht=>hr.1.block k (zab hk) (fun e=>by
 injection e with e
 subst e
 obtain ⟨_,_,_,_,h1,_⟩:=hg
 refine zaF hk h1 (fun e=>hT (e ▸ ht)))
theorem Same.grown {T:List TypeId}{base:Nat}{t:TypeId}{w w':World}{row:Option Nat} (hg:w.grownBy w' row) (ht:∀ k,row=some k→∃ c,w.heap[k]?=some (.cells c t (0,0))) (hT:t ∉ T):Same T base w w':=fun k t' c _ hk ht'=>hg.block k (zab hk) (fun e=>by
 obtain ⟨c',hc'⟩:=ht k e.symm
 exact zaF hk hc' (fun e=>hT (e ▸ ht')))
theorem Same.kept {T:List TypeId}{base d:Nat}{t:TypeId}{w w':World}{c:Array Value}{fr:Nat × Nat} (hk:∀ k,k≠d→k<w.heap.size→w'.heap[k]?=w.heap[k]?) (hd:w.heap[d]?=some (.cells c t fr)) (hT:t ∉ T):Same T base w w':=fun k t' c' _ h ht'=>hk k (fun e=>by
 subst e
 exact zaF h hd (fun e=>hT (e ▸ ht'))) (zab h)
theorem Same.trans {T:List TypeId}{base:Nat}{u v w:World} (h:Same T base u v) (h':Same T base v w):Same T base u w:=fun k t c hb hk ht=>(h' k t c hb ((h k t c hb hk ht).trans hk) ht).trans (h k t c hb hk ht)
theorem Same.less {T T':List TypeId}{base:Nat}{u v:World} (h:Same T base u v) (hT:∀ t∈T',t∈T):Same T' base u v:=fun k t c hb hk ht=>h k t c hb hk (hT t ht)
abbrev AcV:=Ac × Value
def acells (x:AcV):List Value:=[.int .i64 x.1.kind,.int .i64 x.1.k,.string x.1.cls,x.2]
def AcP (w:World) (base:Nat) (x:AcV):Prop:=(∃ a c,x.2=.slice a x.1.args.length c)∧w.ownsRow base 3 1 x.2 x.1.args.length (icells x.1.args)
def AcO (w:World) (base:Nat) (a:Option Addr) (c:Nat) (Y:List AcV):Prop:=w.ownsRow base 200 4 (.slice a Y.length c) Y.length (Y.flatMap acells)∧∀ x∈Y,AcP w base x
theorem AcO.nil (w:World) (base:Nat):AcO w base none 0 []:=⟨World.ownsRow_nil _ _ _ _,fun x hx=>by simp at hx⟩
theorem AcO.same {T:List TypeId}{base:Nat}{w w':World}{a:Option Addr}{c:Nat}{Y:List AcV} (h:AcO w base a c Y) (hs:Same T base w w') (h1:200∈T) (h2:3∈T):AcO w' base a c Y:=⟨zbC h.1 hs h1,fun x hx=>⟨(h.2 x hx).1,zbC (h.2 x hx).2 hs h2⟩⟩
theorem AcO.bel {base:Nat}{w w':World}{a:Option Addr}{c:Nat}{Y:List AcV} (h:AcO w base a c Y) (hb:Below w.heap.size w w'):AcO w' base a c Y:=h.same (T:=[200,3]) (Same.bel hb) (by decide) (by decide)
theorem AcO.rs {base g:Nat}{w w':World}{a:Option Addr}{c:Nat}{Y:List AcV} (h:AcO w base a c Y) (hr:Rs g w w') (hg:g<base):AcO w' base a c Y:=h.same (T:=[200,3]) (Same.rs hr hg) (by decide) (by decide)
theorem AcO.turned {base d:Nat}{w w':World}{a:Option Addr}{c:Nat}{Y:List AcV}{cd:Array Value}{fr:Nat × Nat} (h:AcO w base a c Y) (ht:Turned w w' d) (hd:∀ k,(Value.slice a Y.length c).ownBlock=some k→k≠d) (hb:w.heap[d]?=some (.cells cd 200 fr)):AcO w' base a c Y:=
 ⟨zaf h.1 (fun k hk=>ht.block k (hd k hk)),fun x hx=>⟨(h.2 x hx).1,zbC (h.2 x hx).2 (T:=[3]) (Same.kept (fun k hk _=>ht.block k hk) hb (by decide)) (by decide)⟩⟩
theorem AcO.qs {base g b:Nat}{o:Option Nat}{w w':World}{a:Option Addr}{c:Nat}{Y:List AcV} (h:AcO w base a c Y) (hq:Qs g b o w w') (hg:g<base) (hb:b<base) (ht:∀ k,o=some k→∃ c,w.heap[k]?=some (.cells c 240 (0,0))):AcO w' base a c Y:=
 ⟨zkK h.1 hq hg hb ht (by decide),fun x hx=>⟨(h.2 x hx).1,zkK (h.2 x hx).2 hq hg hb ht (by decide)⟩⟩
structure RuX where
 nm:ByteArray
 sal:Int
 pv:Value
 ev:Value
 av:Value
 pats:List PtV
 es:List Ex
 acts:List AcV
def RuX.ru (x:RuX):Ru:=⟨x.nm,x.sal,x.pats.map Prod.fst,x.es,x.acts.map Prod.fst⟩
def rcells (x:RuX):List Value:=[.string x.nm,.int .i64 x.sal,x.pv,x.ev,x.av]
def rTys:List TypeId:=[38,115,240,200,3]
def RuP (w:World) (base:Nat) (x:RuX):Prop:=(∃ a c,x.pv=.slice a x.pats.length c∧PO w base a c x.pats)∧(∃ a c,x.ev=.slice a x.es.length c∧w.ownsRow base 240 8 (.slice a x.es.length c) x.es.length (x.es.flatMap zbb)∧∀ e∈x.es,ExSm e)∧∃ a c,x.av=.slice a x.acts.length c∧AcO w base a c x.acts
theorem PO.same {T:List TypeId}{base:Nat}{w w':World}{a:Option Addr}{c:Nat}{L:List PtV} (h:PO w base a c L) (hs:Same T base w w') (h1:38∈T) (h2:115∈T):PO w' base a c L:=⟨zbC h.1 hs h1,fun x hx=>⟨(h.2 x hx).1,zbC (h.2 x hx).2.1 hs h2,(h.2 x hx).2.2⟩⟩
theorem RuP.same {base:Nat}{w w':World}{x:RuX} (h:RuP w base x) (hs:Same rTys base w w'):RuP w' base x:=by
 obtain ⟨⟨a,c,e,h1⟩,⟨a2,c2,e2,h2,h3⟩,a4,c4,e4,h4⟩:=h
 exact ⟨⟨a,c,e,h1.same hs (by decide) (by decide)⟩,⟨a2,c2,e2,zbC h2 hs (by decide),h3⟩,a4,c4,e4,h4.same hs (by decide) (by decide)⟩
theorem RuP.lower {base base':Nat}{w:World}{x:RuX} (h:RuP w base x) (hb:base'≤base):RuP w base' x:=by
 obtain ⟨⟨a,c,e,h1⟩,⟨a2,c2,e2,h2,h3⟩,a4,c4,e4,h4⟩:=h
 exact ⟨⟨a,c,e,zar h1.1 hb,fun y hy=>⟨(h1.2 y hy).1,zar (h1.2 y hy).2.1 hb,(h1.2 y hy).2.2⟩⟩,⟨a2,c2,e2,zar h2 hb,h3⟩,a4,c4,e4,zar h4.1 hb,fun y hy=>⟨(h4.2 y hy).1,zar (h4.2 y hy).2 hb⟩⟩
def RO (w:World) (base:Nat) (a:Option Addr) (c:Nat) (M:List RuX):Prop:=w.ownsRow base 35 5 (.slice a M.length c) M.length (M.flatMap rcells)∧∀ x∈M,RuP w base x
theorem RO.nil (w:World) (base:Nat):RO w base none 0 []:=⟨World.ownsRow_nil _ _ _ _,fun x hx=>by simp at hx⟩
theorem RO.same {base:Nat}{w w':World}{a:Option Addr}{c:Nat}{M:List RuX} (h:RO w base a c M) (hs:Same (35 :: rTys) base w w'):RO w' base a c M:=⟨zbC h.1 hs (by decide),fun x hx=>(h.2 x hx).same (hs.less (fun t ht=>List.mem_cons_of_mem _ ht))⟩
theorem RO.lower {base base':Nat}{w:World}{a:Option Addr}{c:Nat}{M:List RuX} (h:RO w base a c M) (hb:base'≤base):RO w base' a c M:=⟨zar h.1 hb,fun x hx=>(h.2 x hx).lower hb⟩
theorem RO.bel {base:Nat}{w w':World}{a:Option Addr}{c:Nat}{M:List RuX} (h:RO w base a c M) (hb:Below w.heap.size w w'):RO w' base a c M:=h.same (Same.bel hb)
theorem RO.rs {base g:Nat}{w w':World}{a:Option Addr}{c:Nat}{M:List RuX} (h:RO w base a c M) (hr:Rs g w w') (hg:g<base):RO w' base a c M:=h.same (Same.rs hr hg)
theorem RO.rsT {base g:Nat}{w w':World}{a:Option Addr}{c:Nat}{M:List RuX} (h:RO w base a c M) (hr:Rs g w w') (hg:Rdr w g):RO w' base a c M:=h.same (Same.rsT hr hg (by decide))
end Go.Proofs.YtmmdlgjmplddiaaGreat
