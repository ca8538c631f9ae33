/-
  OUR OWN TEXT. Mq5, Mq6, one behind the other.
-/
import Derived.Test.YtjjjagepnnbebaaGreatDoorKba
set_option maxRecDepth 100000
namespace Go.Proofs.YtjjjagepnnbebaaGreatDoor
open Go.RowKit
attribute [local go_sem ↓] Go.wp_at_zero Go.wp_at_succ
theorem zo6(n:Int)(w:World):Calls Tryz.prog 157 #[.int .i64 n] w fun e w'=>e=.returned (.agg (V.cells (0,n,mkS [])).toArray)/\Below w.heap.size w w':=by
 go_enter Tryz.func157,Tryz.ntmps157;go_wp2;exact bodyPost_ret (v:=.agg #[.int .i64 0,.int .i64 n,.string ⟨#[]⟩]) (by simp[results,Tryz.results157,go_sem]) rfl ⟨by simp[V.cells,V.kind,V.num,V.sym,mkS],(Below.refl _ _).alloc (Nat.le_refl _) _⟩
theorem zpI(t:Bs)(w:World):Calls Tryz.prog 156 #[.string (mkS t)] w fun e w'=>e=.returned (.agg (V.cells (1,0,mkS t)).toArray)/\Below w.heap.size w w':=by
 go_enter Tryz.func156,Tryz.ntmps156;go_wp2;exact bodyPost_ret (v:=.agg #[.int .i64 1,.int .i64 0,.string (mkS t)]) (by simp[results,Tryz.results156,go_sem]) rfl ⟨by simp[V.cells,V.kind,V.num,V.sym],(Below.refl _ _).alloc (Nat.le_refl _) _⟩
theorem zeV{P:World->Prop}{w:World}{o:Obj}(h:∀ E,E.heap[w.heap.size]?=some o->Below w.heap.size w E->P E):P (w.alloc o).drew:=h _ (heap_alloc_new _ _) ((Below.refl _ _).alloc (Nat.le_refl _) _).drew
theorem MB.now{w:World}{pb g:Nat}{W:List Wd}{c:Nat}{s:Ps}{R:List Value}(h:MB w pb g W c s R):∃ (k:Nat) (x:Wd),k<W.length/\w.cell? ⟨pb,0,none⟩=some (.slice (some ⟨g,0,none⟩) W.length c)/\w.cell? ⟨pb,1,none⟩=some (.int .i64 (k:Int))/\w.rangeAt g (k * 4) (wdV x)/\∀ y r,s=.ok (y :: r)->x=y:=by
 obtain ⟨k,I,pos,G,hk,hs⟩:=h.st;have hx:W[k]?=some W[k]:=List.getElem?_eq_getElem hk;refine ⟨k,W[k],hk,zae G (j:=0) rfl,zae G (j:=1) rfl,h.wds k _ hx,fun y r e=>?_⟩;subst e;obtain ⟨U,O,e,E,_⟩:=wdrop hs.2.2 hk;injection e with e1 e2;rw[hx]at E;injection E with E;rw[E,<- e1]
theorem zrL{w:World}{pb g:Nat}{W:List Wd}{c:Nat}{s:Ps}{R:List Value}(G:MB w pb g W c s R)(h3:zbx s≠3)(E:zbx s≠5):∃ f,onS s pVal=.error f/\zdf 3 (zaD s)=.error f:=by
 cases s with
 | error f=>exact ⟨f,rfl,rfl⟩
 | ok l=>
  obtain ⟨x,r,rfl,hx,_⟩:=G.head
  cases hr:zaj (x :: r) with
  | error f=>
   refine ⟨f,?_,?_⟩
   ·simp[onS,pVal,hr]
   ·rw[(zaY hr).2];rfl
  | ok p=>
   obtain ⟨y,I⟩:=p;obtain ⟨rfl,_⟩:=za8 hr;rw[(look_ok hr).1]at h3 E;refine ⟨(3,y.pos),?_,?_⟩
   ·simp only[onS,pVal,hr];rw[if_neg (fun e=>e.elim (fun e=>h3 ((rel48 y hx).2 e)) (fun e=>E ((rel97 y hx).2 e)))]
   rw[(look_ok hr).2];rfl
def zV0:V:=(0,0,mkS [])
set_option maxHeartbeats 3200000 in
theorem zfQ(w:World)(pb g:Nat)(W:List Wd)(c:Nat)(s:Ps)(R:List Value)(h:MB w pb g W c s R):Calls Tryz.prog 147 #[.pointer (some ⟨pb,0,none⟩)] w (MPost w pb g W c R Rv (onS s pVal)):=by
 have HM:=hidX h;have bb:=h.lt;have ba:=h.glt;have a7:=h.far;have a6:=h.caps;have a8:=h.len;clear h;go_enter Tryz.func147,Tryz.ntmps147;go_upto_region 1 with fail
 refine zaf ?_;intro w1 aJ aL;have aZ:w.heap.size<w1.heap.size:=zab aL;have aw:=HM.out.below aJ;obtain ⟨k,x0,hk,c0,c1,ap,aR⟩:=aw.now;have y0:=ap 0 _ rfl;have y1:=ap 1 _ rfl;have y2:=ap 2 _ rfl;have y3:=ap 3 _ rfl;simp only[Nat.add_zero]at y0;have aX:=aw.lt;have a1:=aw.glt;have aV:=hidX aR;have aT:=hidX aL;have M1:=hidX (MkO.of_below aJ:MkO (some pb) w w1);have aQ:=hidX aw;clear aJ aL aw ap aR;go_region;refine zeV ?_;intro w2 aK aF;have O:=hidX (zch w2 pb g W c s R (aQ.out.below aF));have M2:=hidX (M1.out.trans (MkO.of_below aF));have aP:w1.heap.size<w2.heap.size:=zab aK;have aj:=hidX ((aF.block w.heap.size aZ).trans aT.out);have ay:=hidX aK;clear c0 c1 y0 y1 y2 y3 aF aT aQ aX a1 aK;obtain ⟨K,hK⟩:∃ K,K=zbx s:=⟨_,rfl⟩
 unfold zco at O;rw[<- hK]at O;by_cases h3:K=3
 ·obtain ⟨x,r,hs,ah,af,aC,aG,aY⟩:=zcj HM.out (by decide) (by decide) (hK.symm.trans h3);have aH:x0=x:=aV.out x r hs;subst aH;have aD:Hid (onS s pVal=.ok ((0,x0.num,mkS []),r)):=show _=_ from by
   rw[hs];simp only[onS,pVal,af];rw[(rel48 x0 aG).1 ah];simp[wVal]
  have HX:Hid (x0.kind≠0):=show x0.kind≠0 from by omega
  rw[aC]at O;clear hK hs ah af aC;subst h3;go_upto_region 4 with (first | (go_at_call 21;refine O.out.mono ?_;rintro e w3 ⟨rfl,E,U⟩) | fail);obtain ⟨X,aS,aq,aM,ax⟩:=U.cells;have d1:=zae X (j:=1) rfl;have z1:=zax X 1;have au:=hidX X;have aI:=hidX U;have M3:=hidX (M2.out.trans E);have aW:=E.rest.size;have aA:=hidX ((E.block w1.heap.size aP (fun e=>by injection e;omega)).trans ay.out);have ad:=hidX ((E.block w.heap.size (by omega) (fun e=>by injection e;omega)).trans aj.out);clear X U E aq aM ax O ay aj;go_upto_region 5 with fail
  refine zau au.out ?_;intro w4 Z G;replace Z:w4.heap[pb]?=some (.cells (.slice (some ⟨g,0,none⟩) W.length c :: .int .i64 ((kOf W r+1:Nat):Int) :: .int .i64 0 :: .int .i64 ((0:Nat):Int) :: R).toArray 64 (0,0)):=by
   rw[Z];simp
  have aB:=hidX (aI.out.next HX.out G Z);have M4:=hidX (M3.out.trans G.mko);have ak:=G.size;have ab:=(G.block w1.heap.size (by omega)).trans aA.out;have I:=(G.block w.heap.size (by omega)).trans ad.out;have b3:=zae (L:=[_,_,_,_]) ab (j:=3) rfl;have aU:w3.heap.size<=w4.heap.size:=Nat.le_of_eq ak.symm;have az:=hidX I;clear Z G ab I ak au aA ad d1 z1;go_wp2_with (first | (go_at_call 157;refine (zo6 _ _).mono ?_;rintro e w5 ⟨rfl,ag⟩;have ao:=(ag.block w.heap.size (by omega)).trans az.out) | (refine zac (by rfl) 93 (.tmp 2) (.tmp 27) (by rfl) w.heap.size (V.cells (0,x0.num,mkS [])) (by rfl) (by rfl) _ 93 ao (by rfl) zhI (zfL _) ?_;intro w6 ar ae) | fail);have al:=run_loadVar_mid (P:=Tryz.prog) w6 w.heap.size 0 93 (V.cells (0,x0.num,mkS [])) _ (zal ar.out) Tryz.underlying93 rfl zhI;(try go_frame);refine bodyPost_ret (v:=.agg (V.cells (0,x0.num,mkS [])).toArray) (by simp[results,Tryz.results147,asAddr,al]) rfl (MPost.good aD.out ((M4.out.trans (MkO.of_below ag)).turn ae.out (Nat.le_refl _)) rfl ?_);exact (aB.out.below ag).turned ae.out (by omega) (by omega)
 by_cases h5:K=5
 ·obtain ⟨x,r,hs,ah,af,aC,aG,aY⟩:=zcj HM.out (by decide) (by decide) (hK.symm.trans h5);have aH:x0=x:=aV.out x r hs;subst aH;have aD:Hid (onS s pVal=.ok ((1,0,mkS x0.text),r)):=show _=_ from by
   rw[hs];simp only[onS,pVal,af];rw[(rel97 x0 aG).1 ah];simp[wVal,zf9 aG ah]
  have HX:Hid (x0.kind≠0):=show x0.kind≠0 from by omega
  rw[aC]at O;clear hK hs ah af aC h3;subst h5;go_upto_region 7 with (first | (go_at_call 21;refine O.out.mono ?_;rintro e w3 ⟨rfl,E,U⟩) | fail);obtain ⟨X,aS,aq,aM,ax⟩:=U.cells;have d1:=zae X (j:=1) rfl;have z1:=zax X 1;have au:=hidX X;have aI:=hidX U;have M3:=hidX (M2.out.trans E);have aW:=E.rest.size;have aA:=hidX ((E.block w1.heap.size aP (fun e=>by injection e;omega)).trans ay.out);have ad:=hidX ((E.block w.heap.size (by omega) (fun e=>by injection e;omega)).trans aj.out);clear X U E aq aM ax O ay aj;go_upto_region 8 with fail
  refine zau au.out ?_;intro w4 Z G;replace Z:w4.heap[pb]?=some (.cells (.slice (some ⟨g,0,none⟩) W.length c :: .int .i64 ((kOf W r+1:Nat):Int) :: .int .i64 0 :: .int .i64 ((0:Nat):Int) :: R).toArray 64 (0,0)):=by
   rw[Z];simp
  have aB:=hidX (aI.out.next HX.out G Z);have M4:=hidX (M3.out.trans G.mko);have ak:=G.size;have ab:=(G.block w1.heap.size (by omega)).trans aA.out;have I:=(G.block w.heap.size (by omega)).trans ad.out;have b2:=zae (L:=[_,_,_,_]) ab (j:=2) rfl;have aU:w3.heap.size<=w4.heap.size:=Nat.le_of_eq ak.symm;have az:=hidX I;clear Z G ab I ak au aA ad d1 z1;go_wp2_with (first | (go_at_call 156;refine (zpI _ _).mono ?_;rintro e w5 ⟨rfl,ag⟩;have ao:=(ag.block w.heap.size (by omega)).trans az.out) | (refine zac (by rfl) 93 (.tmp 2) (.tmp 39) (by rfl) w.heap.size (V.cells (1,0,mkS x0.text)) (by rfl) (by rfl) _ 93 ao (by rfl) zhI (zfL _) ?_;intro w6 ar ae) | fail);have al:=run_loadVar_mid (P:=Tryz.prog) w6 w.heap.size 0 93 (V.cells (1,0,mkS x0.text)) _ (zal ar.out) Tryz.underlying93 rfl zhI;(try go_frame);refine bodyPost_ret (v:=.agg (V.cells (1,0,mkS x0.text)).toArray) (by simp[results,Tryz.results147,asAddr,al]) rfl (MPost.good aD.out ((M4.out.trans (MkO.of_below ag)).turn ae.out (Nat.le_refl _)) rfl ?_);exact (aB.out.below ag).turned ae.out (by omega) (by omega)
 obtain ⟨f,af,aN⟩:=zrL HM.out (fun e=>h3 (hK.trans e)) (fun e=>h5 (hK.trans e));have aD:=hidX af;have HF:=hidX (fun u (hu:MB u pb g W c (zaD s) R)=>zbY u pb g W c (zaD s) R 3 (by decide) hu);rw[aN]at HF;have e3:(K==3)=false:=by simp[h3]
 have e5:(K==5)=false:=by simp[h5]
 clear hK af aN h3 h5;go_upto_region 10 with (first | (go_at_call 21;refine O.out.mono ?_;rintro e w3 ⟨rfl,E,U⟩) | (go_at_call 22;refine (HF.out _ U).mono ?_;rintro e w4 ⟨rfl,aE,aO⟩) | fail);have aW:=E.rest.size;have ak:=aE.rest.size;have I:=(aE.block w.heap.size (by omega) (fun e=>by injection e;omega)).trans ((E.block w.heap.size (by omega) (fun e=>by injection e;omega)).trans aj.out);have aB:=hidX aO;have M4:=hidX ((M2.out.trans E).trans aE);clear E U aE aO O HF aj ay;go_wp2_with (first | (refine zac (by rfl) 93 (.tmp 2) (.tmp 42) (by rfl) w.heap.size (V.cells zV0) (by rfl) (by rfl) _ 93 I (by rfl) zhI (zfL _) ?_;intro w6 ar ae) | fail);have al:=run_loadVar_mid (P:=Tryz.prog) w6 w.heap.size 0 93 (V.cells zV0) _ (zal ar.out) Tryz.underlying93 rfl zhI;(try go_frame);refine bodyPost_ret (v:=.agg (V.cells zV0).toArray) (by simp[results,Tryz.results147,asAddr,al]) rfl (MPost.err zV0 aD.out (M4.out.turn ae.out (Nat.le_refl _)) rfl (aB.out.turned ae.out (by omega) (by omega)))
end Go.Proofs.YtjjjagepnnbebaaGreatDoor
namespace Go.Proofs.YtjjjagepnnbebaaGreatDoor
open Go.RowKit
theorem zak{α β:Type}{x:α}{l:List Wd}{k:α->List Wd->Px β}:andP (.ok (x,l)) k=k x l:=rfl
theorem zq7{kd:Int}{T:List Bs}{l l1:List Wd}{t:Bs}(h:oneM kd T l=.ok (t,l1)):t∈T:=by
 unfold oneM at h
 cases hr:zaj l with
 | error f=>rw[hr]at h;cases h
 | ok p=>
  obtain ⟨x,r⟩:=p;rw[hr]at h;simp only at h;split at h
  ·rename_i E;injection h with h;injection h with h _;rw[<- h];exact E.2
  cases h
theorem zkZ{α:Type}{M:List α}{l:List Wd}:preL M (.ok ([],l))=.ok (M,l):=by simp[preL]
theorem zlw{x:Wd}(h:WdOk x):x.kind ≠ -1:=by
 rcases h with ⟨_,_,h | h | h | h⟩ | ⟨h,_⟩
 ·omega
 ·omega
 ·omega
 ·omega
 rw[h];unfold mkind
 repeat' split
 all_goals decide
end Go.Proofs.YtjjjagepnnbebaaGreatDoor
