/-
  OUR OWN TEXT. Pt9, Pt10, PrB, one behind the other.
-/
import Derived.Test.YtjjjagepnnbebaaGreatDoorKbi
import Derived.Deep.CutBlock
import Derived.Deep.DeepCutAuto
import Derived.Test.YtjjjagepnnbebaaGreatDoorKbj
set_option maxHeartbeats 12800000
set_option maxRecDepth 100000
namespace Go.Proofs.YtjjjagepnnbebaaGreatDoor
open Go.RowKit Go.Maps
attribute [local go_sem ↓] Go.wp_at_zero Go.wp_at_succ
def ruL(n:ByteArray)(s:Int)(pv ev av:Value):List Value:=[.string n,.int .i64 s,pv,ev,av]
theorem zke(n:ByteArray)(s:Int)(I a2 a3:Option Addr)(G U O E c2 c3:Nat):∀ v∈ruL n s (.slice I G E) (.slice a2 U c2) (.slice a3 O c3),v.oneCell'=true:=by
 intro v hv;simp[ruL]at hv;rcases hv with rfl | rfl | rfl | rfl | rfl <;> rfl
theorem zhe:(Tryz.prog.info? 39).map (·.size)=some 5:=by kernel_rfl
theorem zf4:(Tryz.prog.info? 78).map (fun i=>(i.zero,i.size,i.bytes))=some (some (.agg #[.bool false,.string ⟨#[]⟩,.slice none 0 0]),3,48):=by kernel_rfl
theorem zfM:(Tryz.prog.info? 73).map (fun i=>(i.zero,i.size,i.bytes))=some (some (.agg #[.int .i64 0,.int .i64 0,.string ⟨#[]⟩,.slice none 0 0]),4,56):=by kernel_rfl
structure RX where
 ru:Ru
 pa:Option Addr
 pc:Nat
 MP:List (Pt × Value)
 ea:Option Addr
 ec:Nat
 aa:Option Addr
 ac:Nat
 MA:List (Ac × Value)
def RX.pv(x:RX):Value:=.slice x.pa x.MP.length x.pc
def RX.ev(x:RX):Value:=.slice x.ea x.ru.exprs.length x.ec
def RX.av(x:RX):Value:=.slice x.aa x.MA.length x.ac
def RX.cells(x:RX):List Value:=ruL x.ru.name x.ru.sal x.pv x.ev x.av
structure ROwn (w:World) (B:Nat) (x:RX):Prop where
 pts:NRow ptK w B x.pa x.pc x.MP
 exs:w.ownsRow B 97 8 x.ev x.ru.exprs.length (x.ru.exprs.flatMap exC)
 acs:NRow acK w B x.aa x.ac x.MA
 mp:x.MP.map Prod.fst=x.ru.pats
 ma:x.MA.map Prod.fst=x.ru.acts
def zcC(w:World)(pb:Nat)(src:Bs)(a:Option Addr)(c:Nat)(am cm rv lv:Value)(r:Px Ru)(e:Ending)(w':World):Prop:=MkO (some pb) w w'/\match r with
 | .error f=>e=fltE f
 | .ok (ru,l)=>∃ x:RX,x.ru=ru/\e=.returned (.agg x.cells.toArray)/\ROwn w' w.heap.size x/\∃ ev bv,PSt w' pb src a c l (RL am cm rv lv ev bv)
theorem zcC.err{w w':World}{pb:Nat}{src:Bs}{a:Option Addr}{c:Nat}{am cm rv lv:Value}{r:Px Ru}{f:Flt}(hr:r=.error f)(hm:MkO (some pb) w w'):zcC w pb src a c am cm rv lv r (fltE f) w':=by
 subst hr;exact ⟨hm,rfl⟩
def lenP(bx j:Nat)(w:World):Nat:=match w.cell? ⟨bx,j,none⟩ with
 | some v=>za6 v
 | none=>0
def nilV:Value:=.slice none 0 0
structure PatS (w wx:World) (pb bx rb:Nat) (src:Bs) (a:Option Addr) (c:Nat) (am cm rv lv:Value) (nm:ByteArray) (sl:Int) (l:List Wd) (pa:Option Addr) (pc:Nat) (MP:List (Pt × Value)):Prop where
 mo:MkO (some pb) w wx
 ps:PSt wx pb src a c l (RL am cm rv lv (.slice none 0 0) (.int .i64 0))
 pts:NRow ptK wx w.heap.size pa pc MP
 bq:wx.heap[bx]?=some (.cells (ruL nm sl (.slice pa MP.length pc) nilV nilV).toArray 39 (0,0))
 rq:wx.heap[rb]?=some (.cells (ruL ⟨#[]⟩ 0 nilV nilV nilV).toArray 39 (0,0))
theorem PatS.below{w wx E:World}{pb bx rb:Nat}{src:Bs}{a:Option Addr}{c:Nat}{am cm rv lv:Value}{nm:ByteArray}{sl:Int}{l:List Wd}{pa:Option Addr}{pc:Nat}{MP:List (Pt × Value)}(h:PatS w wx pb bx rb src a c am cm rv lv nm sl l pa pc MP)(hb:Below wx.heap.size wx E):PatS w E pb bx rb src a c am cm rv lv nm sl l pa pc MP:=
 ⟨h.mo.trans (MkO.of_below hb),h.ps.below hb,h.pts.below hb,(hb.block bx (zab h.bq)).trans h.bq,(hb.block rb (zab h.rq)).trans h.rq⟩
theorem PatS.mko{w wx E:World}{pb bx rb:Nat}{src:Bs}{a:Option Addr}{c:Nat}{am cm rv lv:Value}{nm:ByteArray}{sl:Int}{l l':List Wd}{pa:Option Addr}{pc:Nat}{MP:List (Pt × Value)}(h:PatS w wx pb bx rb src a c am cm rv lv nm sl l pa pc MP)(hm:MkO (some pb) wx E)(hp:PSt E pb src a c l' (RL am cm rv lv (.slice none 0 0) (.int .i64 0)))(h1:pb<w.heap.size)(h2:pb≠bx)(h3:pb≠rb):PatS w E pb bx rb src a c am cm rv lv nm sl l' pa pc MP:=
 ⟨h.mo.trans hm,hp,h.pts.mko hm h1,(hm.block bx (zab h.bq) (fun e=>h2 (by injection e))).trans h.bq,(hm.block rb (zab h.rq) (fun e=>h3 (by injection e))).trans h.rq⟩
theorem zhW:∀ {n:Nat}{s s':ES}{l l':List Wd}{vs:List Int},s.1.length<=s.2->s.2<=60->zaB (zaw 20) n s l=.ok ((vs,s'),l')->s'.1.length<=s'.2/\s'.2<=60:=by
 intro n
 induction n with
 | zero=>
  intro s s' l l' vs h1 h2 h;unfold zaB at h
  cases hr:zaj l with
  | error f=>rw[hr]at h;cases h
  | ok q=>
   rw[hr]at h;simp only at h;split at h
   ·injection h with h;injection h with h _;injection h with _ h;subst h;exact ⟨h1,h2⟩
   ·split at h <;> cases h
 | succ n E=>
  intro s s' l l' vs h1 h2 h;unfold zaB at h
  cases hr:zaj l with
  | error f=>rw[hr]at h;cases h
  | ok q=>
   rw[hr]at h;simp only at h;split at h
   ·injection h with h;injection h with h _;injection h with _ h;subst h;exact ⟨h1,h2⟩
   cases hv:zaw 20 s l with
   | error f=>rw[hv]at h;cases h
   | ok q=>
    obtain ⟨⟨v,s1⟩,l1⟩:=q;rw[hv]at h;simp only at h;obtain ⟨j1,j2⟩:=zc3 20 s l l1 0 v s1 (by omega) h2 hv
    cases hp:zaB (zaw 20) n s1 l1 with
    | error f=>rw[hp]at h;cases h
    | ok p=>
     obtain ⟨⟨G,s2⟩,l2⟩:=p;rw[hp]at h;simp only at h;injection h with h;injection h with h _;injection h with _ h;subst h;exact E (by omega) j2 hp
theorem zaS{α β:Type}{r:Px α}{k:α->List Wd->Px β}{y:β}{l:List Wd}(h:andP r k=.ok (y,l)):∃ x l1,r=.ok (x,l1)/\k x l1=.ok (y,l):=by
 cases r with
 | error f=>cases h
 | ok q=>exact ⟨q.1,q.2,rfl,h⟩
theorem ziv{s s':ES}{l l':List Wd}{v:Ac}(h1:s.1.length<=s.2)(h2:s.2<=60)(h:pAct s l=.ok ((v,s'),l')):s'.1.length<=s'.2/\s'.2<=60:=by
 obtain ⟨x,l1,_,h⟩:=zaS h;split at h
 ·obtain ⟨y,l2,_,h⟩:=zaS h;injection h with h;injection h with h _;injection h with _ h;subst h;exact ⟨h1,h2⟩
 split at h
 ·obtain ⟨y,l2,_,h⟩:=zaS h;obtain ⟨⟨vs,s1⟩,l3,hp,h⟩:=zaS h;injection h with h;injection h with h _;injection h with _ h;subst h;exact zhW h1 h2 hp
 split at h
 ·obtain ⟨y,l2,_,h⟩:=zaS h;obtain ⟨z,l3,_,h⟩:=zaS h;injection h with h;injection h with h _;injection h with _ h;subst h;exact ⟨h1,h2⟩
 split at h
 ·obtain ⟨y,l2,_,h⟩:=zaS h;obtain ⟨⟨vs,s1⟩,l3,hp,h⟩:=zaS h;injection h with h;injection h with h _;injection h with _ h;subst h;exact zhW h1 h2 hp
 cases h
theorem MkO.mkx{pb:Nat}{ob:Option Nat}{u v w:World}(h:MkO (some pb) u v)(k:MkX pb ob v w)(ho:∀ g,ob=some g->u.heap.size<=g):MkO (some pb) u w:=
 ⟨h.rest.trans k.rest,fun g hg hp=>(k.block g (Nat.lt_of_lt_of_le hg h.rest.size) (fun e=>hp (by rw[e])) (fun e=>by have:=ho g e;omega)).trans (h.block g hg hp)⟩
structure ActS (w wx:World) (pb bx rb:Nat) (src:Bs) (a:Option Addr) (c:Nat) (am cm rv lv:Value) (nm:ByteArray) (sl:Int) (pa:Option Addr) (pc:Nat) (MP:List (Pt × Value)) (l:List Wd) (s:ES) (ea:Option Addr) (ec:Nat) (aa:Option Addr) (ac:Nat) (MA:List (Ac × Value)):Prop where
 mo:MkO (some pb) w wx
 st:ExS wx w.heap.size pb src a c l am cm rv lv s ea ec
 pts:NRow ptK wx w.heap.size pa pc MP
 acs:NRow acK wx w.heap.size aa ac MA
 bq:wx.heap[bx]?=some (.cells (ruL nm sl (.slice pa MP.length pc) nilV (.slice aa MA.length ac)).toArray 39 (0,0))
 rq:wx.heap[rb]?=some (.cells (ruL ⟨#[]⟩ 0 nilV nilV nilV).toArray 39 (0,0))
 hk:s.1.length<=s.2
 h60:s.2<=60
theorem ActS.below{w wx E:World}{pb bx rb:Nat}{src:Bs}{a:Option Addr}{c:Nat}{am cm rv lv:Value}{nm:ByteArray}{sl:Int}{pa:Option Addr}{pc:Nat}{MP:List (Pt × Value)}{l:List Wd}{s:ES}{ea:Option Addr}{ec:Nat}{aa:Option Addr}{ac:Nat}{MA:List (Ac × Value)}(h:ActS w wx pb bx rb src a c am cm rv lv nm sl pa pc MP l s ea ec aa ac MA)(hb:Below wx.heap.size wx E):ActS w E pb bx rb src a c am cm rv lv nm sl pa pc MP l s ea ec aa ac MA:=
 ⟨h.mo.trans (MkO.of_below hb),h.st.below hb,h.pts.below hb,h.acs.below hb,(hb.block bx (zab h.bq)).trans h.bq,(hb.block rb (zab h.rq)).trans h.rq,h.hk,h.h60⟩
theorem ActS.mko{w wx E:World}{pb bx rb:Nat}{src:Bs}{a:Option Addr}{c:Nat}{am cm rv lv:Value}{nm:ByteArray}{sl:Int}{pa:Option Addr}{pc:Nat}{MP:List (Pt × Value)}{l l':List Wd}{s:ES}{ea:Option Addr}{ec:Nat}{aa:Option Addr}{ac:Nat}{MA:List (Ac × Value)}(h:ActS w wx pb bx rb src a c am cm rv lv nm sl pa pc MP l s ea ec aa ac MA)(hm:MkO (some pb) wx E)(hp:PSt E pb src a c l' (RE am cm rv lv s ea ec))(h2:pb≠bx)(h3:pb≠rb):ActS w E pb bx rb src a c am cm rv lv nm sl pa pc MP l' s ea ec aa ac MA:=
 ⟨h.mo.trans hm,h.st.mko hm hp,h.pts.mko hm h.st.lt,h.acs.mko hm h.st.lt,(hm.block bx (zab h.bq) (fun e=>h2 (by injection e))).trans h.bq,(hm.block rb (zab h.rq) (fun e=>h3 (by injection e))).trans h.rq,h.hk,h.h60⟩
theorem zfg{w:World}{g b:Nat}{B:Nat}{s:ES}{ea:Option Addr}{ec:Nat}{cs:Array Value}(ho:w.ownsRow B 97 8 (.slice ea s.1.length ec) s.1.length (s.1.flatMap exC))(hb:w.heap[b]?=some (.cells cs 39 (0,0)))(hg:obE s ea ec=some g):g≠b:=fun e=>by
 obtain ⟨E,e1⟩:=zaA ho hg;subst e;exact zg5 e1 hb (by decide)
theorem ActS.mkx{w wx E:World}{pb bx rb:Nat}{src:Bs}{a:Option Addr}{c:Nat}{am cm rv lv:Value}{nm:ByteArray}{sl:Int}{pa:Option Addr}{pc:Nat}{MP:List (Pt × Value)}{l l':List Wd}{s s':ES}{ea ea':Option Addr}{ec ec':Nat}{aa:Option Addr}{ac:Nat}{MA:List (Ac × Value)}(h:ActS w wx pb bx rb src a c am cm rv lv nm sl pa pc MP l s ea ec aa ac MA)(hm:MkX pb (obE s ea ec) wx E)(hs:ExS E w.heap.size pb src a c l' am cm rv lv s' ea' ec')(h2:pb≠bx)(h3:pb≠rb)(hk:s'.1.length<=s'.2)(h60:s'.2<=60):ActS w E pb bx rb src a c am cm rv lv nm sl pa pc MP l' s' ea' ec' aa ac MA:=
 ⟨h.mo.mkx hm (fun g hg=>(h.st.ow.lt g hg).1),hs,h.pts.mkx hm h.st.lt h.st.row (by decide) (by decide),h.acs.mkx hm h.st.lt h.st.row (by decide) (by decide),(hm.block bx (zab h.bq) h2 (fun e=>zfg h.st.ow h.bq e rfl)).trans h.bq,(hm.block rb (zab h.rq) h3 (fun e=>zfg h.st.ow h.rq e rfl)).trans h.rq,hk,h60⟩
theorem zor(w:World)(pb mb:Nat)(src:Bs)(a:Option Addr)(c:Nat)(l:List Wd)(cm rv lv cu cv:Value)(h:PSt w pb src a c l (RL (.map (some mb)) cm rv lv cu cv))(hM:zdX w pb mb actF)(b5:pb<mb):Calls Tryz.prog 48 #[.pointer (some ⟨pb,0,none⟩)] w (zcC w pb src a c (.map (some mb)) cm rv lv (zbh l)):=by
 have cF:=wfield2;have cE:=wfield3;have HP:=hidX h;have HM:=hidX hM;have aR:=h.lt;have cG:=hM.lt;clear h hM;go_enter Tryz.func48,Tryz.ntmps48;go_upto_region 1 with fail
 refine zaf ?_;intro w1 bU bY;have P1:=hidX (HP.out.below bU);have M1:=hidX (MkO.of_below bU:MkO (some pb) w w1);have HF:=hidX (zbt w1 pb src a c l _ 97 P1.out);have cA:w.heap.size<w1.heap.size:=zab bY;have b7:=hidX bY;clear bU bY
 cases hr:zai 97 l with
 | error f=>
  have HT:Hid (zbh l=.error f):=show _=_ from by unfold zbh;rw[hr];rfl
  rw[hr]at HF;go_wp2_with (first | (go_at_call 85;refine HF.out.mono ?_;rintro e w2 ⟨aX,rfl⟩;unfold fltE) | fail);exact ⟨rfl,zcC.err HT.out (M1.out.trans aX)⟩
 | ok p=>
  obtain ⟨x,l1⟩:=p;rw[hr]at HF;go_upto_region 2 with (first | (go_at_call 85;refine HF.out.mono ?_;rintro e w2 ⟨aX,bP,b3⟩;replace bP:e=.returned (pwA x):=bP;subst bP;unfold pwA) | fail);refine zaf ?_;intro w3 bA bd;obtain ⟨L,X,b8,cw,bd,y0⟩:=zfk bd;have s2:=aX.rest.size;have s3:w2.heap.size<w3.heap.size:=zab bd;have M3:=hidX ((M1.out.trans aX).trans (MkO.of_below bA));have P3:=hidX (b3.below bA);have bJ:=hidX ((bA.block w.heap.size (by omega)).trans ((aX.block w.heap.size cA (fun e=>by injection e;omega)).trans b7.out));have y2:=(zfK b8 bd).1;have aI:=zbB (mkS (ptW x)) zd2;rw[zbX]at aI;clear bA aX b3 HF b7 M1 P1;by_cases hk:ptW x=zd2
  ·have bt:Hid (zbh l=andP (zai 97 l1) fun nm l2=>andP (zai 48 l2) fun sl l3=>andP (za1 62 pPat 6 l3) fun ps l4=>andP (zai 62 l4) fun _ l5=>andP (zaK 41 pAct 8 ([],0) l5) fun q l6=>andP (zai 41 l6) fun _ l7=>.ok (⟨mkS (ptW nm),sl.num,ps,q.2.1,q.1⟩,l7)):=show _=_ from by unfold zbh;rw[hr,zbc,if_pos hk]
   rw[decide_eq_true hk]at aI;replace aI:((mkS (ptW x)).toList==[114,117,108,101])=true:=aI;clear hk hr;have c6:=P3.out.cell (j:=4) rfl;have c7:=P3.out.cell (j:=5) rfl;obtain ⟨cH,bO⟩:∃ cs,w3.heap[pb]?=some (.cells cs 56 (0,0)):=by
    obtain ⟨k',cC⟩:=P3.out.sc;exact ⟨_,cC.blk⟩
   have f6:=zax bO 6;have f7:=zax bO 7;go_upto_region 5 with fail
   refine zb5 ?_;intro w4 bW;have P4:=hidX (show PSt w4 pb src a c l1 (RL (.map (some mb)) cm rv lv (.slice none 0 0) (.int .i64 0)) from (P3.out.cellSet (j:=4) (v:=.slice none 0 0) rfl).cellSet (j:=5) (v:=.int .i64 0) bW);have m4:MkO (some pb) w3 w4:=by rw[bW];exact (MkO.set _).trans (MkO.set _)
   have M4:=hidX (M3.out.trans m4);have s4:=m4.rest.size;have bK:=hidX ((m4.block w.heap.size (by omega) (fun e=>by injection e;omega)).trans bJ.out);clear bW m4 c6 c7 f6 f7 bO P3 M3 bJ y2 aI;have bi:=hidX (zbt w4 pb src a c l1 _ 97 P4.out)
   cases hn:zai 97 l1 with
   | error f=>
    have HT:Hid (zbh l=.error f):=show _=_ from by rw[bt.out,hn];rfl
    rw[hn]at bi;go_wp2_with (first | (go_at_call 85;refine bi.out.mono ?_;rintro e w5 ⟨aY,rfl⟩;unfold fltE) | fail);exact ⟨rfl,zcC.err HT.out (M4.out.trans aY)⟩
   | ok p=>
    obtain ⟨nm,l2⟩:=p;rw[hn]at bi;go_upto_region 6 with (first | (go_at_call 85;refine bi.out.mono ?_;rintro e w5 ⟨aY,bT,b0⟩;replace bT:e=.returned (pwA nm):=bT;subst bT;unfold pwA) | fail);refine zaf ?_;intro w6 bB bZ;have s5:=aY.rest.size;have s6:w5.heap.size<w6.heap.size:=zab bZ;have P6:=hidX (b0.below bB);have M6:=hidX ((M4.out.trans aY).trans (MkO.of_below bB));have ce:=hidX (show w6.heap[w5.heap.size]?=some (.cells (ruL (mkS (ptW nm)) 0 nilV nilV nilV).toArray 39 (0,0)) from bZ);have bH:=hidX ((bB.block w.heap.size (by omega)).trans ((aY.block w.heap.size (by omega) (fun e=>by injection e;omega)).trans bK.out));have bs:=hidX (zbt w6 pb src a c l2 _ 48 P6.out);clear bB bZ aY b0 bi P4 M4 bK
    cases hs:zai 48 l2 with
    | error f=>
     have HT:Hid (zbh l=.error f):=show _=_ from by rw[bt.out,hn,zbc,hs];rfl
     rw[hs]at bs;go_wp2_with (first | (go_at_call 85;refine bs.out.mono ?_;rintro e w7 ⟨aT,rfl⟩;unfold fltE) | fail);exact ⟨rfl,zcC.err HT.out (M6.out.trans aT)⟩
    | ok p=>
     obtain ⟨sl,l3⟩:=p;have bk:Hid (zbh l=andP (za1 62 pPat 6 l3) fun ps l4=>andP (zai 62 l4) fun _ l5=>andP (zaK 41 pAct 8 ([],0) l5) fun q l6=>andP (zai 41 l6) fun _ l7=>.ok (⟨mkS (ptW nm),sl.num,ps,q.2.1,q.1⟩,l7)):=show _=_ from by rw[bt.out,hn,zbc,hs,zbc]
     rw[hs]at bs;clear hn hs bt
     go_upto_block 0 with (first | (go_at_call 85;refine bs.out.mono ?_;rintro e w7 ⟨aT,bV,b1⟩;replace bV:e=.returned (pwA sl):=bV;subst bV;unfold pwA;have s7:=aT.rest.size;have bC:=(aT.block w5.heap.size s6 (fun e=>by injection e;omega)).trans ce.out;have d1:=zae bC (j:=1) rfl;have f1:=zax bC 1) | fail)
     refine zau bC ?_;intro w8 b4 bw;have S8:=hidX (show PatS w w8 pb w5.heap.size w.heap.size src a c (.map (some mb)) cm rv lv (mkS (ptW nm)) sl.num l3 none 0 [] from ⟨(M6.out.trans aT).turn bw (by omega),b1.turned bw (by omega),NRow.nil _ _ _,b4,(bw.block w.heap.size (by omega)).trans ((aT.block w.heap.size (by omega) (fun e=>by injection e;omega)).trans bH.out)⟩);have cI:w.heap.size<w5.heap.size:=by omega
     clear aT b1 s7 bC d1 f1 b4 bw bs ce bH P6 M6
     go_cut [] (fun wx=>∃ l4 pa pc MP,PatS w wx pb w5.heap.size w.heap.size src a c (.map (some mb)) cm rv lv (mkS (ptW nm)) sl.num l4 pa pc MP/\za1 62 pPat 6 l3=.ok (MP.map Prod.fst,l4))
     case first=>
      go_wp2_with fail
      go_loopw [] (fun wr=>∃ (n:Nat) (l':List Wd) (pa:Option Addr) (pc:Nat) (MP:List (Pt × Value)),MP.length+n=6/\PatS w wr pb w5.heap.size w.heap.size src a c (.map (some mb)) cm rv lv (mkS (ptW nm)) sl.num l' pa pc MP/\za1 62 pPat 6 l3=preL (MP.map Prod.fst) (za1 62 pPat n l')) (fun wr=>6 - lenP w5.heap.size 2 wr)
      case atStart=>exact ⟨6,l3,none,0,[],rfl,S8.out,by unfold preL;cases za1 62 pPat 6 l3 <;> rfl⟩
      case round=>
       obtain ⟨n,l',pa,pc,MP,cx,ah,bf⟩:=hrel;have ST:=hidX ah;have PL:=hidX bf;have ag:=hidX (zdZ wr pb src a c l' _ 62 ah.ps);have c2:=zae ah.bq (j:=2) rfl;have bn:Hid (lenP w5.heap.size 2 wr=MP.length):=show _=_ from by unfold lenP;rw[c2];rfl
       have cy:w5.heap.size<wr.heap.size:=zab ah.bq;clear ah bf S8
       cases hr:zaj l' with
       | error f=>
        have HT:Hid (zbh l=.error f):=show _=_ from by rw[bk.out,PL.out,zfD hr];rfl
        rw[hr]at ag;go_wp2_with (first | (go_at_call 46;refine ag.out.mono ?_;rintro e aU ⟨I,rfl⟩;unfold fltE) | fail);exact ⟨rfl,zcC.err HT.out (ST.out.below I).mo⟩
       | ok p=>
        obtain ⟨x',r⟩:=p;rw[hr]at ag;by_cases hx:pkW x'=62
        ·have HT:Hid (za1 62 pPat 6 l3=.ok (MP.map Prod.fst,l')):=show _=_ from by rw[PL.out,zdz hr hx];simp[preL]
         replace ag:Hid (Calls Tryz.prog 46 #[.pointer (some ⟨pb,0,none⟩),.int .i32 62] wr fun e w'=>Below wr.heap.size wr w'/\e=.returned (.bool true)):=by
          rw[<- decide_eq_true hx];exact ag
         clear hx;go_wp2_with (first | (go_at_call 46;refine ag.out.mono ?_;rintro e aU ⟨I,rfl⟩) | fail);go_meet;exact ⟨l',pa,pc,MP,ST.out.below I,HT.out⟩
        ·replace ag:Hid (Calls Tryz.prog 46 #[.pointer (some ⟨pb,0,none⟩),.int .i32 62] wr fun e w'=>Below wr.heap.size wr w'/\e=.returned (.bool false)):=by
          rw[<- decide_eq_false hx];exact ag
         have aF:=hidX (fun u (hu:Below wr.heap.size wr u)=>zi3 u pb src a c l' _ (MP.length:Int) 6 (ST.out.below hu).ps);have aK:(MP.length:Int)=((6 - n:Nat):Int):=by omega
         cases ho:zeE (MP.length:Int) 6 l' with
         | error f=>
          have HT:Hid (zbh l=.error f):=show _=_ from by rw[bk.out,PL.out,zic (m:=6) hr hx (by omega) (by rw[<- aK];exact ho)];rfl
          rw[ho]at aF;clear hx aK ho;go_upto_region 8 with (first | (go_at_call 46;refine ag.out.mono ?_;rintro e aU ⟨I,rfl⟩) | fail);have d2:=zaa I c2;go_wp2_with (first | (go_at_call 47;refine (aF.out _ I).mono ?_;rintro e bz ⟨ak,rfl⟩;unfold fltE) | fail);exact ⟨rfl,zcC.err HT.out ((ST.out.below I).mo.trans ak)⟩
         | ok p=>
          obtain ⟨y,aZ⟩:=p;obtain ⟨n,rfl,a8⟩:=zfV (m:=6) (n:=n) hr (by omega) (by rw[<- aK];exact ho);rw[ho]at aF;clear aK ho;have az:=hidX (fun u (hu:PSt u pb src a c aZ (RL (.map (some mb)) cm rv lv (.slice none 0 0) (.int .i64 0)))=>zju u pb src a c aZ _ hu);go_upto_region 8 with (first | (go_at_call 46;refine ag.out.mono ?_;rintro e aU ⟨I,rfl⟩) | fail);have d2:=zaa I c2;go_upto_region 9 with (first | (go_at_call 47;refine (aF.out _ I).mono ?_;rintro e bz ⟨ak,aB,aN⟩;replace aB:e=.returned (.tuple #[]):=aB;subst aB) | fail);have ae:=hidX ((ST.out.below I).mko ak aN aR (by omega) (by omega));have cr:=I.size;have cB:=ak.rest.size;have e2:=zae ae.out.bq (j:=2) rfl;clear ak aN I d2 c2 aF ag
          cases hc:pPat aZ with
          | error f=>
           have HT:Hid (zbh l=.error f):=show _=_ from by rw[bk.out,PL.out,zfq hr hx a8 hc];rfl
           rw[hc]at az;clear hx;refine zeo (fun ch u=>zcC w pb src a c (.map (some mb)) cm rv lv (zbh l) (.panicked ch) u) (fun _ _ _ h1 h2=>⟨h1,h2⟩) ?_;refine wp_region_held_drew (S:=(fun _=>True)) (by kernel_rfl) ?_ (fun E=>?_)
           ·trivial
           refine tkP 0 E ?_;(try simp only[pA,pZ,pS]);refine tkP 2 E ?_;(try simp only[pA,pZ,pS]);refine r2 1 3 (fun K hK=>?_) fun K hK=>?_
           focus
            go_simp;refine hK.out _ _ (by (try dsimp only);all_goals trivial) fun U=>?_;replace E:=U;clear hK K U;(try simp only[pA,pZ,pS]);refine r1 3 fun K hK=>?_
           rotate_left
           rotate_left
           all_goals
            go_simp;(go_at_call 94;refine (az.out _ (ae.out.below ((Below.refl _ _).drew)).ps).mono ?_;rintro e ad ⟨af,rfl⟩;unfold fltE);go_wp2_with fail
            exact ⟨rfl,zcC.err HT.out (ae.out.mo.drew.trans af)⟩
          | ok q=>
           obtain ⟨v,ax⟩:=q;have bm:=hidX (PL.out.trans (zcZ (M:=MP.map Prod.fst) hr hx a8 hc));rw[hc]at az;clear hx;refine wp_region_noPanic ?_;refine wp_region_held_drew (S:=(fun _=>True)) (by kernel_rfl) ?_ (fun E=>?_)
           ·(try dsimp only)
            all_goals trivial
           refine tk 0 E ?_;(try simp only[pA,pZ,pS]);refine tk 2 E ?_;(try simp only[pA,pZ,pS]);refine r2 1 3 (fun K hK=>?_) fun K hK=>?_
           ·go_simp;refine hK.out _ _ (by (try dsimp only);all_goals trivial) fun U=>?_;replace E:=U;clear hK K U;(try simp only[pA,pZ,pS]);refine r1 3 fun K hK=>?_;go_simp;(go_at_call 94;refine (az.out _ (ae.out.below ((Below.refl _ _).drew)).ps).mono ?_;rintro e ad ⟨af,⟨va,vc,rfl,al⟩,ba⟩;unfold ptP;have aS:=af.rest.size;simp at aS;have ay:=(af.block w5.heap.size (by simp;omega) (fun e=>by injection e;omega)).trans ae.out.bq;have g2:=zae ay (j:=2) rfl);refine hK.out _ _ (by (try dsimp only);all_goals trivial) fun U=>?_;replace E:=U;clear hK K U;(try simp only[pA,pZ,pS]);refine r1 4 fun K hK=>?_;go_simp;have Z:=zHA ad;have cd:∀ o',(ad.alloc o').cell? ⟨w5.heap.size,2,none⟩=some (.slice pa MP.length pc):=fun o'=>zaa (Z.out o') g2;refine hK.out _ _ (by (try dsimp only);all_goals trivial) fun U=>?_;replace E:=U;clear hK K U;(try simp only[pA,pZ,pS]);have aj:=hidX ((ae.out.below ((Below.refl _ _).drew)).mko af ba aR (by omega) (by omega));refine r1 5 fun K hK=>?_;(refine zaq (by rfl) (.tmp 36) (.tmp 39) 35 (by rfl) w.heap.size 78 _ 3 48 Tryz.underlying35 zf4 (by rfl) (by omega) _ MP.length _ (by rfl) (aj.out.below (Z.out _)).pts.row (some ⟨_,0,none⟩) 1 1 (by rfl) (ptP v (.slice va v.terms.length vc)) (by rfl) (fun e=>by cases e) (zas _ _ _ _ (by simp)) (zef _ _ _ _) (by unfold maxLen;omega) (by omega) (by have:=aj.out.mo.rest.size;simp;omega) ?_;intro aA aG aM aH G bb);refine hK.out _ _ (by (try dsimp only);all_goals trivial) fun U=>?_;replace E:=U;clear hK K U;(try simp only[pA,pZ,pS]);have ap:∀ k,(Value.slice pa MP.length pc).ownBlock=some k->w.heap.size<=k:=fun k hk=>(aj.out.pts.rlt k hk).1;have SA:=hidX (fun o'=>aj.out.below (Z.out o'));have aO:=hidX (NRow.more (ae.out.below ((Below.refl _ _).drew)).pts (SA.out _).pts al (Nat.le_refl _) (by simp;omega) ⟨va,vc,rfl⟩ (zao al (Z.out _)) G.out aH.out (by decide));have aQ:=hidX ((SA.out _).ps.keep ((Below.refl _ _).grown G.out (by simp;omega) (fun k hk=>by have:=ap k hk;omega)));have ab:=hidX (zaL (SA.out _).bq G.out (SA.out _).pts.rty (by decide));have aP:=hidX (zaL (SA.out _).rq G.out (SA.out _).pts.rty (by decide));have aL:=hidX ((SA.out _).mo.grown G.out ap);have f2:=zae ab.out (j:=2) rfl;have z2:=zax ab.out 2;have bX:w5.heap.size<aM.heap.size:=zab ab.out;refine tk 6 E ?_;(try simp only[pA,pZ,pS]);refine r1 7 fun K hK=>?_;go_simp;refine hK.out _ _ (by (try dsimp only);all_goals trivial) fun U=>?_;replace E:=U;clear hK K U;(try dsimp only);refine wpAnyH_done (by kernel_rfl) ?_ _;refine NoPanic.normal ?_;clear E;refine zau ab.out ?_;intro aq ao O;have aE:=hidX (show PatS w aq pb w5.heap.size w.heap.size src a c (.map (some mb)) cm rv lv (mkS (ptW nm)) sl.num ax aA aG (MP ++ [(v,.slice va v.terms.length vc)]) from ⟨aL.out.turn O (by omega),aQ.out.turned O (by omega),aO.out.turned O ab.out (by decide) (by decide),by simpa[ruL] using ao,(O.block w.heap.size (by omega)).trans aP.out⟩);have aD:Hid (lenP w5.heap.size 2 aq=MP.length+1):=show _=_ from by unfold lenP;rw[zae aE.out.bq (j:=2) rfl];simp[za6]
            clear ao O f2 z2;go_wp2_with fail
            go_roundw
            case rel=>exact ⟨n,ax,aA,aG,MP ++ [(v,.slice va v.terms.length vc)],by simp;omega,aE.out,by simpa using bm.out⟩
            case measure=>
             change 6 - lenP w5.heap.size 2 aq<6 - lenP w5.heap.size 2 wr;rw[aD.out,bn.out];omega
           ·go_simp;(go_at_call 94;refine (az.out _ (ae.out.below ((Below.refl _ _).drew)).ps).mono ?_;rintro e ad ⟨af,⟨va,vc,rfl,al⟩,ba⟩;unfold ptP;have aS:=af.rest.size;simp at aS;have ay:=(af.block w5.heap.size (by simp;omega) (fun e=>by injection e;omega)).trans ae.out.bq;have g2:=zae ay (j:=2) rfl);refine hK.out _ _ (by (try dsimp only);all_goals trivial) fun U=>?_;replace E:=U;clear hK K U;(try simp only[pA,pZ,pS]);refine r2 1 4 (fun K hK=>?_) fun K hK=>?_
            focus
             go_simp;refine hK.out _ _ (by (try dsimp only);all_goals trivial) fun U=>?_;replace E:=U;clear hK K U;(try simp only[pA,pZ,pS]);refine r1 4 fun K hK=>?_;go_simp;have Z:=zHA ad;have cd:∀ o',(ad.alloc o').cell? ⟨w5.heap.size,2,none⟩=some (.slice pa MP.length pc):=fun o'=>zaa (Z.out o') g2
            rotate_left
            focus
             go_simp;have Z:=zHA ad;have cd:∀ o',(ad.alloc o').cell? ⟨w5.heap.size,2,none⟩=some (.slice pa MP.length pc):=fun o'=>zaa (Z.out o') g2;refine hK.out _ _ (by (try dsimp only);all_goals trivial) fun U=>?_;replace E:=U;clear hK K U;(try simp only[pA,pZ,pS]);refine r1 1 fun K hK=>?_;go_simp
            rotate_left
            all_goals
             refine hK.out _ _ (by (try dsimp only);all_goals trivial) fun U=>?_;replace E:=U;clear hK K U;(try simp only[pA,pZ,pS]);have aj:=hidX ((ae.out.below ((Below.refl _ _).drew)).mko af ba aR (by omega) (by omega));refine r1 5 fun K hK=>?_;(refine zaq (by rfl) (.tmp 36) (.tmp 39) 35 (by rfl) w.heap.size 78 _ 3 48 Tryz.underlying35 zf4 (by rfl) (by omega) _ MP.length _ (by rfl) (aj.out.below (Z.out _)).pts.row (some ⟨_,0,none⟩) 1 1 (by rfl) (ptP v (.slice va v.terms.length vc)) (by rfl) (fun e=>by cases e) (zas _ _ _ _ (by simp)) (zef _ _ _ _) (by unfold maxLen;omega) (by omega) (by have:=aj.out.mo.rest.size;simp;omega) ?_;intro aA aG aM aH G bb);refine hK.out _ _ (by (try dsimp only);all_goals trivial) fun U=>?_;replace E:=U;clear hK K U;(try simp only[pA,pZ,pS]);have ap:∀ k,(Value.slice pa MP.length pc).ownBlock=some k->w.heap.size<=k:=fun k hk=>(aj.out.pts.rlt k hk).1;have SA:=hidX (fun o'=>aj.out.below (Z.out o'));have aO:=hidX (NRow.more (ae.out.below ((Below.refl _ _).drew)).pts (SA.out _).pts al (Nat.le_refl _) (by simp;omega) ⟨va,vc,rfl⟩ (zao al (Z.out _)) G.out aH.out (by decide));have aQ:=hidX ((SA.out _).ps.keep ((Below.refl _ _).grown G.out (by simp;omega) (fun k hk=>by have:=ap k hk;omega)));have ab:=hidX (zaL (SA.out _).bq G.out (SA.out _).pts.rty (by decide));have aP:=hidX (zaL (SA.out _).rq G.out (SA.out _).pts.rty (by decide));have aL:=hidX ((SA.out _).mo.grown G.out ap);have f2:=zae ab.out (j:=2) rfl;have z2:=zax ab.out 2;have bX:w5.heap.size<aM.heap.size:=zab ab.out;refine tk 6 E ?_;(try simp only[pA,pZ,pS]);refine r1 7 fun K hK=>?_;go_simp;refine hK.out _ _ (by (try dsimp only);all_goals trivial) fun U=>?_;replace E:=U;clear hK K U;(try dsimp only);refine wpAnyH_done (by kernel_rfl) ?_ _;refine NoPanic.normal ?_;clear E;refine zau ab.out ?_;intro aq ao O;have aE:=hidX (show PatS w aq pb w5.heap.size w.heap.size src a c (.map (some mb)) cm rv lv (mkS (ptW nm)) sl.num ax aA aG (MP ++ [(v,.slice va v.terms.length vc)]) from ⟨aL.out.turn O (by omega),aQ.out.turned O (by omega),aO.out.turned O ab.out (by decide) (by decide),by simpa[ruL] using ao,(O.block w.heap.size (by omega)).trans aP.out⟩);have aD:Hid (lenP w5.heap.size 2 aq=MP.length+1):=show _=_ from by unfold lenP;rw[zae aE.out.bq (j:=2) rfl];simp[za6]
             clear ao O f2 z2;go_wp2_with fail
             go_roundw
             case rel=>exact ⟨n,ax,aA,aG,MP ++ [(v,.slice va v.terms.length vc)],by simp;omega,aE.out,by simpa using bm.out⟩
             case measure=>
              change 6 - lenP w5.heap.size 2 aq<6 - lenP w5.heap.size 2 wr;rw[aD.out,bn.out];omega
     case rest=>
      obtain ⟨l4,pa,pc,MP,ah,a7⟩:=hcut;obtain ⟨w9,rfl⟩:∃ v,v=wc:=⟨wc,rfl⟩
      have ST:=hidX ah;have bQ:Hid (zbh l=andP (zai 62 l4) fun _ l5=>andP (zaK 41 pAct 8 ([],0) l5) fun q l6=>andP (zai 41 l6) fun _ l7=>.ok (⟨mkS (ptW nm),sl.num,MP.map Prod.fst,q.2.1,q.1⟩,l7)):=show _=_ from by rw[bk.out,a7];rfl
      have bl:=hidX (zbt w9 pb src a c l4 _ 62 ah.ps);clear ah a7 S8 bk
      cases a6:zai 62 l4 with
      | error f=>
       have HT:Hid (zbh l=.error f):=show _=_ from by rw[bQ.out,a6];rfl
       rw[a6]at bl;go_wp2_with (first | (go_at_call 85;refine bl.out.mono ?_;rintro e cc ⟨au,rfl⟩;unfold fltE) | fail);exact ⟨rfl,zcC.err HT.out (ST.out.mo.trans au)⟩
      | ok p=>
       obtain ⟨th,l5⟩:=p;have a1:Hid (zbh l=andP (zaK 41 pAct 8 ([],0) l5) fun q l6=>andP (zai 41 l6) fun _ l7=>.ok (⟨mkS (ptW nm),sl.num,MP.map Prod.fst,q.2.1,q.1⟩,l7)):=show _=_ from by rw[bQ.out,a6];rfl
       rw[a6]at bl;clear a6 bQ
       go_upto_block 2 with (first | (go_at_call 85;refine bl.out.mono ?_;rintro e cc ⟨au,bj,bI⟩;replace bj:e=.returned (pwA th):=bj;subst bj;unfold pwA) | fail)
       have bM:=hidX (show ActS w cc pb w5.heap.size w.heap.size src a c (.map (some mb)) cm rv lv (mkS (ptW nm)) sl.num pa pc MP l5 ([],0) none 0 none 0 [] from ⟨ST.out.mo.trans au,⟨bI,World.ownsRow_nil _ _ _ _,aR,(ST.out.mo.trans au).rest.size⟩,ST.out.pts.mko au aR,NRow.nil _ _ _,(au.block w5.heap.size (zab ST.out.bq) (fun e=>by injection e;omega)).trans ST.out.bq,(au.block w.heap.size (zab ST.out.rq) (fun e=>by injection e;omega)).trans ST.out.rq,by simp,by simp⟩);clear au bI bl ST
       go_cut [] (fun wx=>∃ l6 s' ea' ec' aa ac MA,ActS w wx pb w5.heap.size w.heap.size src a c (.map (some mb)) cm rv lv (mkS (ptW nm)) sl.num pa pc MP l6 s' ea' ec' aa ac MA/\zaK 41 pAct 8 ([],0) l5=.ok ((MA.map Prod.fst,s'),l6))
       case first=>
        go_wp2_with fail
        go_loopw [] (fun wr=>∃ (n:Nat) (l':List Wd) (s':ES) (ea':Option Addr) (ec':Nat) (aa:Option Addr) (ac:Nat) (MA:List (Ac × Value)),MA.length+n=8/\ActS w wr pb w5.heap.size w.heap.size src a c (.map (some mb)) cm rv lv (mkS (ptW nm)) sl.num pa pc MP l' s' ea' ec' aa ac MA/\zaK 41 pAct 8 ([],0) l5=preE (MA.map Prod.fst) (zaK 41 pAct n s' l')) (fun wr=>8 - lenP w5.heap.size 4 wr)
        case atStart=>exact ⟨8,l5,([],0),none,0,none,0,[],rfl,bM.out,by unfold preE;cases zaK 41 pAct 8 ([],0) l5 <;> rfl⟩
        case round=>
         obtain ⟨n,l',s',ea',ec',aa,ac,MA,cx,ah,bf⟩:=hrel;have ST:=hidX ah;have PL:=hidX bf;have ag:=hidX (zdZ wr pb src a c l' _ 41 ah.st.ps);have c4:=zae ah.bq (j:=4) rfl;have bn:Hid (lenP w5.heap.size 4 wr=MA.length):=show _=_ from by unfold lenP;rw[c4];rfl
         have cy:w5.heap.size<wr.heap.size:=zab ah.bq;clear ah bf bM
         cases hr:zaj l' with
         | error f=>
          have HT:Hid (zbh l=.error f):=show _=_ from by rw[a1.out,PL.out,zhL hr];rfl
          rw[hr]at ag;go_wp2_with (first | (go_at_call 46;refine ag.out.mono ?_;rintro e aU ⟨I,rfl⟩;unfold fltE) | fail);exact ⟨rfl,zcC.err HT.out (ST.out.below I).mo⟩
         | ok p=>
          obtain ⟨x',r⟩:=p;rw[hr]at ag;by_cases hx:pkW x'=41
          ·have HT:Hid (zaK 41 pAct 8 ([],0) l5=.ok ((MA.map Prod.fst,s'),l')):=show _=_ from by rw[PL.out,zfJ hr hx];simp[preE]
           replace ag:Hid (Calls Tryz.prog 46 #[.pointer (some ⟨pb,0,none⟩),.int .i32 41] wr fun e w'=>Below wr.heap.size wr w'/\e=.returned (.bool true)):=by
            rw[<- decide_eq_true hx];exact ag
           clear hx;go_wp2_with (first | (go_at_call 46;refine ag.out.mono ?_;rintro e aU ⟨I,rfl⟩) | fail);go_meet;exact ⟨l',s',ea',ec',aa,ac,MA,ST.out.below I,HT.out⟩
          ·replace ag:Hid (Calls Tryz.prog 46 #[.pointer (some ⟨pb,0,none⟩),.int .i32 41] wr fun e w'=>Below wr.heap.size wr w'/\e=.returned (.bool false)):=by
            rw[<- decide_eq_false hx];exact ag
           have aF:=hidX (fun u (hu:Below wr.heap.size wr u)=>zi3 u pb src a c l' _ (MA.length:Int) 8 (ST.out.below hu).st.ps);have aK:(MA.length:Int)=((8 - n:Nat):Int):=by omega
           cases ho:zeE (MA.length:Int) 8 l' with
           | error f=>
            have HT:Hid (zbh l=.error f):=show _=_ from by rw[a1.out,PL.out,zkB (m:=8) hr hx (by omega) (by rw[<- aK];exact ho)];rfl
            rw[ho]at aF;clear hx aK ho;go_upto_region 12 with (first | (go_at_call 46;refine ag.out.mono ?_;rintro e aU ⟨I,rfl⟩) | fail);have d4:=zaa I c4;go_wp2_with (first | (go_at_call 47;refine (aF.out _ I).mono ?_;rintro e bz ⟨ak,rfl⟩;unfold fltE) | fail);exact ⟨rfl,zcC.err HT.out ((ST.out.below I).mo.trans ak)⟩
           | ok p=>
            obtain ⟨y,aZ⟩:=p;obtain ⟨n,rfl,a8⟩:=zfV (m:=8) (n:=n) hr (by omega) (by rw[<- aK];exact ho);rw[ho]at aF;clear aK ho;go_upto_region 12 with (first | (go_at_call 46;refine ag.out.mono ?_;rintro e aU ⟨I,rfl⟩) | fail);have d4:=zaa I c4;go_upto_region 13 with (first | (go_at_call 47;refine (aF.out _ I).mono ?_;rintro e bz ⟨ak,aB,aN⟩;replace aB:e=.returned (.tuple #[]):=aB;subst aB) | fail);have ae:=hidX ((ST.out.below I).mko ak aN (by omega) (by omega));have az:=hidX (zku bz.drew w.heap.size pb mb src a c aZ cm rv lv s' ea' ec' (ae.out.below ((Below.refl _ _).drew)).st ae.out.hk ae.out.h60 (HM.out.mko ae.out.mo.drew (Nat.ne_of_lt b5)) b5);have cr:=I.size;have cB:=ak.rest.size;have e4:=zae ae.out.bq (j:=4) rfl;clear ak aN I d4 c4 aF ag
            cases hc:pAct s' aZ with
            | error f=>
             have HT:Hid (zbh l=.error f):=show _=_ from by rw[a1.out,PL.out,zh5 hr hx a8 hc];rfl
             rw[hc]at az;clear hx;refine zeo (fun ch u=>zcC w pb src a c (.map (some mb)) cm rv lv (zbh l) (.panicked ch) u) (fun _ _ _ h1 h2=>⟨h1,h2⟩) ?_;refine wp_region_held_drew (S:=(fun _=>True)) (by kernel_rfl) ?_ (fun E=>?_)
             ·trivial
             refine tkP 0 E ?_;(try simp only[pA,pZ,pS]);refine tkP 2 E ?_;(try simp only[pA,pZ,pS]);refine r2 1 3 (fun K hK=>?_) fun K hK=>?_
             focus
              go_simp;refine hK.out _ _ (by (try dsimp only);all_goals trivial) fun U=>?_;replace E:=U;clear hK K U;(try simp only[pA,pZ,pS]);refine r1 3 fun K hK=>?_
             rotate_left
             rotate_left
             all_goals
              go_simp;(go_at_call 95;refine (az.out).mono ?_;rintro e ad ⟨af,rfl⟩;unfold fltE);go_wp2_with fail
              exact ⟨rfl,zcC.err HT.out (ae.out.mo.drew.mkx af (fun g hg=>(ae.out.st.ow.lt g hg).1))⟩
            | ok q=>
             obtain ⟨⟨v,s2⟩,ax⟩:=q;obtain ⟨bu,bD⟩:=ziv ST.out.hk ST.out.h60 hc;have bm:=hidX (PL.out.trans (zeQ (M:=MA.map Prod.fst) hr hx a8 hc));rw[hc]at az;clear hx;refine wp_region_noPanic ?_;refine wp_region_held_drew (S:=(fun _=>True)) (by kernel_rfl) ?_ (fun E=>?_)
             ·(try dsimp only)
              all_goals trivial
             refine tk 0 E ?_;(try simp only[pA,pZ,pS]);refine tk 2 E ?_;(try simp only[pA,pZ,pS]);refine r2 1 3 (fun K hK=>?_) fun K hK=>?_
             ·go_simp;refine hK.out _ _ (by (try dsimp only);all_goals trivial) fun U=>?_;replace E:=U;clear hK K U;(try simp only[pA,pZ,pS]);refine r1 3 fun K hK=>?_;go_simp;(go_at_call 95;refine az.out.mono ?_;rintro e ad ⟨af,⟨va,vc,rfl,al⟩,aC,aw,bp,b6⟩;unfold acL;have aS:=af.rest.size;simp at aS;have ay:=(af.block w5.heap.size (by simp;omega) (by omega) (fun e=>zfg ae.out.st.ow ae.out.bq e rfl)).trans ae.out.bq;have g4:=zae ay (j:=4) rfl);refine hK.out _ _ (by (try dsimp only);all_goals trivial) fun U=>?_;replace E:=U;clear hK K U;(try dsimp only);refine r1 4 fun K hK=>?_;go_simp;have Z:=zHA ad;have ca:∀ o',(ad.alloc o').cell? ⟨w5.heap.size,4,none⟩=some (.slice aa MA.length ac):=fun o'=>zaa (Z.out o') g4;refine hK.out _ _ (by (try dsimp only);all_goals trivial) fun U=>?_;replace E:=U;clear hK K U;(try simp only[pA,pZ,pS]);have aj:=hidX ((ae.out.below ((Below.refl _ _).drew)).mkx af bp (by omega) (by omega) bu bD);refine r1 5 fun K hK=>?_;(refine zaq (by rfl) (.tmp 53) (.tmp 56) 37 (by rfl) w.heap.size 73 _ 4 56 Tryz.underlying37 zfM (by rfl) (by omega) _ MA.length _ (by rfl) (aj.out.below (Z.out _)).acs.row (some ⟨_,0,none⟩) 1 1 (by rfl) (acL v (.slice va v.args.length vc)) (by rfl) (fun e=>by cases e) (zas _ _ _ _ (by simp)) (zcv _ _ _ _) (by unfold maxLen;omega) (by omega) (by have:=aj.out.mo.rest.size;simp;omega) ?_;intro aA aG aM aH G bb);refine hK.out _ _ (by (try dsimp only);all_goals trivial) fun U=>?_;replace E:=U;clear hK K U;(try simp only[pA,pZ,pS]);have ap:∀ k,(Value.slice aa MA.length ac).ownBlock=some k->w.heap.size<=k:=fun k hk=>(aj.out.acs.rlt k hk).1;have SA:=hidX (fun o'=>aj.out.below (Z.out o'));have aO:=hidX (NRow.more (ae.out.below ((Below.refl _ _).drew)).acs (SA.out _).acs al (Nat.le_refl _) (by simp;omega) ⟨va,vc,rfl⟩ (zao al (Z.out _)) G.out aH.out (by decide));have aQ:=hidX ((SA.out _).st.ps.keep ((Below.refl _ _).grown G.out (by simp;omega) (fun k hk=>by have:=ap k hk;omega)));have bR:=hidX (zbF (SA.out _).st.ow G.out (SA.out _).acs.rty (by decide));have bN:=hidX ((SA.out _).pts.grown G.out (SA.out _).acs.rty (by decide) (by decide));have ab:=hidX (zaL (SA.out _).bq G.out (SA.out _).acs.rty (by decide));have aP:=hidX (zaL (SA.out _).rq G.out (SA.out _).acs.rty (by decide));have aL:=hidX ((SA.out _).mo.grown G.out ap);have bo:=hidX (show ExS aM w.heap.size pb src a c ax (.map (some mb)) cm rv lv s2 aC aw from ⟨aQ.out,bR.out,aR,aL.out.rest.size⟩);have f4:=zae ab.out (j:=4) rfl;have z4:=zax ab.out 4;have bX:w5.heap.size<aM.heap.size:=zab ab.out;refine tk 6 E ?_;(try simp only[pA,pZ,pS]);refine r1 7 fun K hK=>?_;go_simp;refine hK.out _ _ (by (try dsimp only);all_goals trivial) fun U=>?_;replace E:=U;clear hK K U;(try dsimp only);refine wpAnyH_done (by kernel_rfl) ?_ _;refine NoPanic.normal ?_;clear E;refine zau ab.out ?_;intro aq ao O;have aE:=hidX (show ActS w aq pb w5.heap.size w.heap.size src a c (.map (some mb)) cm rv lv (mkS (ptW nm)) sl.num pa pc MP ax s2 aC aw aA aG (MA ++ [(v,.slice va v.args.length vc)]) from ⟨aL.out.turn O (by omega),bo.out.turned O (by omega) ab.out (fun _ k hk=>zfg bo.out.ow ab.out hk),bN.out.turned O ab.out (by decide) (by decide),aO.out.turned O ab.out (by decide) (by decide),by simpa[ruL] using ao,(O.block w.heap.size (by omega)).trans aP.out,bu,bD⟩);have aD:Hid (lenP w5.heap.size 4 aq=MA.length+1):=show _=_ from by unfold lenP;rw[zae aE.out.bq (j:=4) rfl];simp[za6]
              clear ao O f4 z4;go_wp2_with fail
              go_roundw
              case rel=>exact ⟨n,ax,s2,aC,aw,aA,aG,MA ++ [(v,.slice va v.args.length vc)],by simp;omega,aE.out,by simpa using bm.out⟩
              case measure=>
               change 8 - lenP w5.heap.size 4 aq<8 - lenP w5.heap.size 4 wr;rw[aD.out,bn.out];omega
             ·go_simp;(go_at_call 95;refine az.out.mono ?_;rintro e ad ⟨af,⟨va,vc,rfl,al⟩,aC,aw,bp,b6⟩;unfold acL;have aS:=af.rest.size;simp at aS;have ay:=(af.block w5.heap.size (by simp;omega) (by omega) (fun e=>zfg ae.out.st.ow ae.out.bq e rfl)).trans ae.out.bq;have g4:=zae ay (j:=4) rfl);refine hK.out _ _ (by (try dsimp only);all_goals trivial) fun U=>?_;replace E:=U;clear hK K U;(try dsimp only);refine r2 1 4 (fun K hK=>?_) fun K hK=>?_
              focus
               go_simp;refine hK.out _ _ (by (try dsimp only);all_goals trivial) fun U=>?_;replace E:=U;clear hK K U;(try simp only[pA,pZ,pS]);refine r1 4 fun K hK=>?_;go_simp;have Z:=zHA ad;have ca:∀ o',(ad.alloc o').cell? ⟨w5.heap.size,4,none⟩=some (.slice aa MA.length ac):=fun o'=>zaa (Z.out o') g4
              rotate_left
              focus
               go_simp;have Z:=zHA ad;have ca:∀ o',(ad.alloc o').cell? ⟨w5.heap.size,4,none⟩=some (.slice aa MA.length ac):=fun o'=>zaa (Z.out o') g4;refine hK.out _ _ (by (try dsimp only);all_goals trivial) fun U=>?_;replace E:=U;clear hK K U;(try simp only[pA,pZ,pS]);refine r1 1 fun K hK=>?_;go_simp
              rotate_left
              all_goals
               refine hK.out _ _ (by (try dsimp only);all_goals trivial) fun U=>?_;replace E:=U;clear hK K U;(try simp only[pA,pZ,pS]);have aj:=hidX ((ae.out.below ((Below.refl _ _).drew)).mkx af bp (by omega) (by omega) bu bD);refine r1 5 fun K hK=>?_;(refine zaq (by rfl) (.tmp 53) (.tmp 56) 37 (by rfl) w.heap.size 73 _ 4 56 Tryz.underlying37 zfM (by rfl) (by omega) _ MA.length _ (by rfl) (aj.out.below (Z.out _)).acs.row (some ⟨_,0,none⟩) 1 1 (by rfl) (acL v (.slice va v.args.length vc)) (by rfl) (fun e=>by cases e) (zas _ _ _ _ (by simp)) (zcv _ _ _ _) (by unfold maxLen;omega) (by omega) (by have:=aj.out.mo.rest.size;simp;omega) ?_;intro aA aG aM aH G bb);refine hK.out _ _ (by (try dsimp only);all_goals trivial) fun U=>?_;replace E:=U;clear hK K U;(try simp only[pA,pZ,pS]);have ap:∀ k,(Value.slice aa MA.length ac).ownBlock=some k->w.heap.size<=k:=fun k hk=>(aj.out.acs.rlt k hk).1;have SA:=hidX (fun o'=>aj.out.below (Z.out o'));have aO:=hidX (NRow.more (ae.out.below ((Below.refl _ _).drew)).acs (SA.out _).acs al (Nat.le_refl _) (by simp;omega) ⟨va,vc,rfl⟩ (zao al (Z.out _)) G.out aH.out (by decide));have aQ:=hidX ((SA.out _).st.ps.keep ((Below.refl _ _).grown G.out (by simp;omega) (fun k hk=>by have:=ap k hk;omega)));have bR:=hidX (zbF (SA.out _).st.ow G.out (SA.out _).acs.rty (by decide));have bN:=hidX ((SA.out _).pts.grown G.out (SA.out _).acs.rty (by decide) (by decide));have ab:=hidX (zaL (SA.out _).bq G.out (SA.out _).acs.rty (by decide));have aP:=hidX (zaL (SA.out _).rq G.out (SA.out _).acs.rty (by decide));have aL:=hidX ((SA.out _).mo.grown G.out ap);have bo:=hidX (show ExS aM w.heap.size pb src a c ax (.map (some mb)) cm rv lv s2 aC aw from ⟨aQ.out,bR.out,aR,aL.out.rest.size⟩);have f4:=zae ab.out (j:=4) rfl;have z4:=zax ab.out 4;have bX:w5.heap.size<aM.heap.size:=zab ab.out;refine tk 6 E ?_;(try simp only[pA,pZ,pS]);refine r1 7 fun K hK=>?_;go_simp;refine hK.out _ _ (by (try dsimp only);all_goals trivial) fun U=>?_;replace E:=U;clear hK K U;(try dsimp only);refine wpAnyH_done (by kernel_rfl) ?_ _;refine NoPanic.normal ?_;clear E;refine zau ab.out ?_;intro aq ao O;have aE:=hidX (show ActS w aq pb w5.heap.size w.heap.size src a c (.map (some mb)) cm rv lv (mkS (ptW nm)) sl.num pa pc MP ax s2 aC aw aA aG (MA ++ [(v,.slice va v.args.length vc)]) from ⟨aL.out.turn O (by omega),bo.out.turned O (by omega) ab.out (fun _ k hk=>zfg bo.out.ow ab.out hk),bN.out.turned O ab.out (by decide) (by decide),aO.out.turned O ab.out (by decide) (by decide),by simpa[ruL] using ao,(O.block w.heap.size (by omega)).trans aP.out,bu,bD⟩);have aD:Hid (lenP w5.heap.size 4 aq=MA.length+1):=show _=_ from by unfold lenP;rw[zae aE.out.bq (j:=4) rfl];simp[za6]
               clear ao O f4 z4;go_wp2_with fail
               go_roundw
               case rel=>exact ⟨n,ax,s2,aC,aw,aA,aG,MA ++ [(v,.slice va v.args.length vc)],by simp;omega,aE.out,by simpa using bm.out⟩
               case measure=>
                change 8 - lenP w5.heap.size 4 aq<8 - lenP w5.heap.size 4 wr;rw[aD.out,bn.out];omega
       case rest=>
        obtain ⟨l6,s',ea',ec',aa,ac,MA,ah,a7⟩:=hcut;obtain ⟨cD,rfl⟩:∃ v,v=wc:=⟨wc,rfl⟩
        have ST:=hidX ah;have bS:Hid (zbh l=andP (zai 41 l6) fun _ l7=>.ok (⟨mkS (ptW nm),sl.num,MP.map Prod.fst,s'.1,MA.map Prod.fst⟩,l7)):=show _=_ from by rw[a1.out,a7];rfl
        have br:=hidX (zbt cD pb src a c l6 _ 41 ah.st.ps);clear ah a7 bM a1
        cases hc:zai 41 l6 with
        | error f=>
         have HT:Hid (zbh l=.error f):=show _=_ from by rw[bS.out,hc];rfl
         rw[hc]at br;go_wp2_with (first | (go_at_call 85;refine br.out.mono ?_;rintro e cz ⟨aV,rfl⟩;unfold fltE) | fail);exact ⟨rfl,zcC.err HT.out (ST.out.mo.trans aV)⟩
        | ok p=>
         obtain ⟨y,l7⟩:=p;have HT:Hid (zbh l=.ok (⟨mkS (ptW nm),sl.num,MP.map Prod.fst,s'.1,MA.map Prod.fst⟩,l7)):=show _=_ from by rw[bS.out,hc];rfl
         rw[hc]at br;clear hc bS;go_upto_region 15 with (first | (go_at_call 85;refine br.out.mono ?_;rintro e cz ⟨aV,bc,bG⟩;replace bc:e=.returned (pwA y):=bc;subst bc;unfold pwA) | fail);have ar:=hidX (ST.out.mko aV bG (by omega) (by omega));have c6:=ar.out.st.ps.cell (j:=4) rfl;have d3:=zae ar.out.bq (j:=3) rfl;have f3:=zax ar.out.bq 3;clear aV bG br ST;go_upto_region 16 with fail
         refine zau ar.out.bq ?_;intro ct bL aJ;have bF:∀ k,obE s' ea' ec'=some k->k≠w5.heap.size:=fun k hk=>zfg ar.out.st.ow ar.out.bq hk;have aI:=(show ct.heap[w5.heap.size]?=some (.cells (ruL (mkS (ptW nm)) sl.num (.slice pa MP.length pc) (.slice ea' s'.1.length ec') (.slice aa MA.length ac)).toArray 39 (0,0)) from by simpa[ruL] using bL)
         have bh:=(aJ.block w.heap.size (by omega)).trans ar.out.rq;have b9:=hidX (ar.out.st.turned aJ (by omega) ar.out.bq (fun _=>bF));have ck:=hidX (ar.out.pts.turned aJ ar.out.bq (by decide) (by decide));have cn:=hidX (ar.out.acs.turned aJ ar.out.bq (by decide) (by decide));have cp:=hidX (ar.out.mo.turn aJ (by omega));have OR:∀ k,obE s' ea' ec'=some k->k≠w.heap.size:=fun k hk=>zfg b9.out.ow bh hk;clear c6 d3 f3 bL aJ bF;go_wp2_with (first | (refine zam (by rfl) 39 (.tmp 4) (by rfl) w5.heap.size (ruL (mkS (ptW nm)) sl.num (.slice pa MP.length pc) (.slice ea' s'.1.length ec') (.slice aa MA.length ac)) (by rfl) 39 (0,0) aI _ Tryz.underlying39 rfl zhe ?_) | (refine zac (by rfl) 39 (.tmp 2) (.tmp 66) (by rfl) w.heap.size (ruL (mkS (ptW nm)) sl.num (.slice pa MP.length pc) (.slice ea' s'.1.length ec') (.slice aa MA.length ac)) (by rfl) (by rfl) _ 39 bh (by rfl) zhe (zke _ _ _ _ _ _ _ _ _ _ _) ?_;intro cg cf aW) | fail);have cj:=run_loadVar_mid (P:=Tryz.prog) cg w.heap.size 0 39 (ruL (mkS (ptW nm)) sl.num (.slice pa MP.length pc) (.slice ea' s'.1.length ec') (.slice aa MA.length ac)) _ (zal cf.out) Tryz.underlying39 rfl zhe;(try go_frame);refine bodyPost_ret (v:=.agg (ruL (mkS (ptW nm)) sl.num (.slice pa MP.length pc) (.slice ea' s'.1.length ec') (.slice aa MA.length ac)).toArray) (by simp[results,Tryz.results48,asAddr,cj]) rfl ⟨cp.out.turn aW.out (Nat.le_refl _),?_⟩;rw[HT.out];have b2:=b9.out.turned aW.out (by omega) bh (fun _=>OR);exact ⟨⟨⟨mkS (ptW nm),sl.num,MP.map Prod.fst,s'.1,MA.map Prod.fst⟩,pa,pc,MP,ea',ec',aa,ac,MA⟩,rfl,rfl,⟨ck.out.turned aW.out bh (by decide) (by decide),b2.ow,cn.out.turned aW.out bh (by decide) (by decide),rfl,rfl⟩,_,_,b2.ps⟩
  have HT:Hid (zbh l=.error (3,x.pos)):=show _=_ from by unfold zbh;rw[hr,zbc,if_neg hk]
  rw[decide_eq_false hk]at aI;replace aI:((mkS (ptW x)).toList==[114,117,108,101])=false:=aI;clear hk hr;go_wp2_with (first | (refine zam (by rfl) 131 (.tmp 3) (by rfl) w2.heap.size L (by rfl) 131 (0,0) bd _ Tryz.underlying131 rfl cw.1 ?_) | (go_at_call 93;refine (zdH b8 3 _).mono ?_;rintro e w4 ⟨rfl,ci⟩) | fail);exact ⟨rfl,zcC.err HT.out (M3.out.trans (MkO.of_below ci))⟩
theorem zie:(Tryz.prog.info? 39).map (fun i=>(i.zero,i.size,i.bytes))=some (some (.agg #[.string ⟨#[]⟩,.int .i64 0,.slice none 0 0,.slice none 0 0,.slice none 0 0]),5,96):=by kernel_rfl
def InX(x:RX)(g:Nat):Prop:=x.pv.ownBlock=some g∨(∃ y∈x.MP,y.2.ownBlock=some g)∨x.ev.ownBlock=some g∨x.av.ownBlock=some g∨∃ y∈x.MA,y.2.ownBlock=some g
theorem ROwn.blk{w:World}{B:Nat}{x:RX}(h:ROwn w B x){g:Nat}(hg:InX x g):B<=g/\g<w.heap.size:=by
 rcases hg with hg | ⟨y,hy,hg⟩ | hg | hg | ⟨y,hy,hg⟩
 ·exact h.pts.rlt g hg
 ·exact h.pts.vlt y hy g hg
 ·exact h.exs.lt g hg
 ·exact h.acs.rlt g hg
 exact h.acs.vlt y hy g hg
theorem ROwn.typ{w:World}{B:Nat}{x:RX}(h:ROwn w B x){g:Nat}(hg:InX x g):∃ cs t,w.heap[g]?=some (.cells cs t (0,0))/\t≠39:=by
 rcases hg with hg | ⟨y,hy,hg⟩ | hg | hg | ⟨y,hy,hg⟩
 ·obtain ⟨cs,e⟩:=h.pts.rty g hg;exact ⟨cs,_,e,by decide⟩
 ·obtain ⟨cs,e⟩:=h.pts.vty y hy g hg;exact ⟨cs,_,e,by decide⟩
 ·obtain ⟨cs,e⟩:=zaA h.exs hg;exact ⟨cs,_,e,by decide⟩
 ·obtain ⟨cs,e⟩:=h.acs.rty g hg;exact ⟨cs,_,e,by decide⟩
 obtain ⟨cs,e⟩:=h.acs.vty y hy g hg;exact ⟨cs,_,e,by decide⟩
theorem ROwn.keep{w w':World}{B:Nat}{x:RX}(h:ROwn w B x)(hk:∀ g,InX x g->w'.heap[g]?=w.heap[g]?):ROwn w' B x:=
 ⟨h.pts.keep (fun g hg=>hk g (.inl hg)) (fun y hy g hg=>hk g (.inr (.inl ⟨y,hy,hg⟩))),zar h.exs (fun g hg=>hk g (.inr (.inr (.inl hg)))),h.acs.keep (fun g hg=>hk g (.inr (.inr (.inr (.inl hg))))) (fun y hy g hg=>hk g (.inr (.inr (.inr (.inr ⟨y,hy,hg⟩))))),h.mp,h.ma⟩
theorem ROwn.base{w:World}{B E:Nat}{x:RX}(h:ROwn w B x)(hb:E<=B):ROwn w E x:=⟨h.pts.base hb,zaO h.exs hb,h.acs.base hb,h.mp,h.ma⟩
theorem ROwn.below{w w':World}{B:Nat}{x:RX}(h:ROwn w B x)(hb:Below w.heap.size w w'):ROwn w' B x:=h.keep (fun g hg=>hb.block g (h.blk hg).2)
theorem ROwn.mko{w w':World}{B pb:Nat}{x:RX}(h:ROwn w B x)(hm:MkO (some pb) w w')(hp:pb<B):ROwn w' B x:=h.keep (fun g hg=>hm.block g (h.blk hg).2 (fun e=>by injection e with e;have:=(h.blk hg).1;omega))
theorem ROwn.grown{w w':World}{B:Nat}{x:RX}{row:Option Nat}(h:ROwn w B x)(hg:w.grownBy w' row)(ht:∀ k,row=some k->∃ cs,w.heap[k]?=some (.cells cs 39 (0,0))):ROwn w' B x:=
 h.keep (fun g hx=>hg.block g (h.blk hx).2 (fun e=>by
  obtain ⟨G,I,e1,E⟩:=h.typ hx
  obtain ⟨c2,e2⟩:=ht g e.symm
  exact zg5 e1 e2 E))
structure RRow (w:World) (B:Nat) (a:Option Addr) (c:Nat) (M:List RX):Prop where
 row:w.ownsRow B 39 5 (.slice a M.length c) M.length (M.flatMap RX.cells)
 all:∀ x∈M,ROwn w B x
 pair:M.Pairwise fun x y=>∀ g,InX x g->¬ InX y g
theorem RRow.nil(w:World)(B:Nat):RRow w B none 0 []:=⟨World.ownsRow_nil _ _ _ _,fun x hx=>by simp at hx,List.Pairwise.nil⟩
theorem RRow.mko{w w':World}{B pb:Nat}{a:Option Addr}{c:Nat}{M:List RX}(h:RRow w B a c M)(hm:MkO (some pb) w w')(hp:pb<B):RRow w' B a c M:=⟨zbq h.row hm hp,fun x hx=>(h.all x hx).mko hm hp,h.pair⟩
theorem RRow.below{w w':World}{B:Nat}{a:Option Addr}{c:Nat}{M:List RX}(h:RRow w B a c M)(hb:Below w.heap.size w w'):RRow w' B a c M:=⟨zao h.row hb,fun x hx=>(h.all x hx).below hb,h.pair⟩
theorem RRow.newer{w w':World}{B C:Nat}{a:Option Addr}{c:Nat}{M:List RX}{v:RX}(h:RRow w B a c M)(I:w.heap.size<=C)(hv:ROwn w' C v):(M ++ [v]).Pairwise fun x y=>∀ g,InX x g->¬ InX y g:=
 List.pairwise_append.2 ⟨h.pair,by simp,fun x hx y hy g hg E=>by
  simp at hy
  subst hy
  have h3:=((h.all x hx).blk hg).2
  have G:=(hv.blk E).1
  omega⟩
theorem RX.cells_one(x:RX):∀ v∈x.cells,v.oneCell'=true:=zke _ _ _ _ _ _ _ _ _ _ _
def lenR(pb:Nat)(w:World):Nat:=match w.cell? ⟨pb,4,none⟩ with
 | some v=>za6 v
 | none=>0
def zee(w:World)(pb:Nat)(src:Bs)(a:Option Addr)(c:Nat)(am cm lv:Value)(r:Px (List Ru))(e:Ending)(w':World):Prop:=MkO (some pb) w w'/\match r with
 | .error f=>e=fltE f
 | .ok (vs,l)=>e=.returned (.tuple #[])/\∃ ra rc M ev bv,M.map RX.ru=vs/\RRow w' w.heap.size ra rc M/\PSt w' pb src a c l (RL am cm (.slice ra M.length rc) lv ev bv)
theorem zee.err{w w':World}{pb:Nat}{src:Bs}{a:Option Addr}{c:Nat}{am cm lv:Value}{r:Px (List Ru)}{f:Flt}(hr:r=.error f)(hm:MkO (some pb) w w'):zee w pb src a c am cm lv r (fltE f) w':=by
 subst hr;exact ⟨hm,rfl⟩
theorem zmh(w:World)(pb mb:Nat)(src:Bs)(a:Option Addr)(c:Nat)(l:List Wd)(cm lv aC aD:Value)(h:PSt w pb src a c l (RL (.map (some mb)) cm (.slice none 0 0) lv aC aD))(hM:zdX w pb mb actF)(aB:pb<mb):Calls Tryz.prog 17 #[.pointer (some ⟨pb,0,none⟩)] w (zee w pb src a c (.map (some mb)) cm lv (zcd l)):=by
 have HP:=hidX h;have HM:=hidX hM;have O:=h.lt;clear h hM;go_enter Tryz.func17,Tryz.ntmps17;go_wp2_with fail
 go_loopw [2] (fun _ wr=>∃ (ra:Option Addr) (rc n:Nat) (M:List RX) (l':List Wd) (ev bv:Value),M.length+n=16/\RRow wr w.heap.size ra rc M/\PSt wr pb src a c l' (RL (.map (some mb)) cm (.slice ra M.length rc) lv ev bv)/\MkO (some pb) w wr/\zcd l=preL (M.map RX.ru) (za1 0 zbh n l')) (fun _ wr=>16 - lenR pb wr)
 case atStart=>exact ⟨none,0,16,[],l,aC,aD,rfl,RRow.nil _ _,HP.out,MkO.refl _ _,by unfold zcd preL;cases za1 0 zbh 16 l <;> rfl⟩
 case round=>
  obtain ⟨la,lc,n,M,l',ev,bv,aL,aH,al,aE,aF⟩:=hrel;have OW:=hidX aH;have PS:=hidX al;have MK:=hidX aE;have PL:=hidX aF;have X:=hidX (zdZ wr pb src a c l' _ 0 al);have c5:wr.cell? ⟨pb,4,none⟩=some (.slice la M.length lc):=al.cell (j:=2) rfl;have aI:Hid (lenR pb wr=M.length):=show _=_ from by unfold lenR;rw[c5];rfl
  clear aH al aE aF
  cases hr:zaj l' with
  | error f=>
   have HT:Hid (zcd l=.error f):=show _=_ from by rw[PL.out,zfD hr];rfl
   rw[hr]at X;go_wp2_with (first | (go_at_call 46;refine X.out.mono ?_;rintro e w2 ⟨I,rfl⟩;unfold fltE) | fail);exact ⟨rfl,zee.err HT.out (MK.out.trans (MkO.of_below I))⟩
  | ok p=>
   obtain ⟨x,r⟩:=p;rw[hr]at X;by_cases hx:pkW x=0
   ·have HT:Hid (zcd l=.ok (M.map RX.ru,l')):=show _=_ from by rw[PL.out,zdz hr hx];simp[preL]
    replace X:Hid (Calls Tryz.prog 46 #[.pointer (some ⟨pb,0,none⟩),.int .i32 0] wr fun e w'=>Below wr.heap.size wr w'/\e=.returned (.bool true)):=by
     rw[<- decide_eq_true hx];exact X
    clear hx;go_wp2_with (first | (go_at_call 46;refine X.out.mono ?_;rintro e w2 ⟨I,rfl⟩) | fail);refine bodyPost_end (results_none rfl _ _ _) rfl ⟨MK.out.trans (MkO.of_below I),?_⟩;rw[HT.out];exact ⟨rfl,la,lc,M,ev,bv,rfl,OW.out.mko (MkO.of_below I) O,PS.out.below I⟩
   replace X:Hid (Calls Tryz.prog 46 #[.pointer (some ⟨pb,0,none⟩),.int .i32 0] wr fun e w'=>Below wr.heap.size wr w'/\e=.returned (.bool false)):=by
    rw[<- decide_eq_false hx];exact X
   have aj:=hidX (fun u (hu:Below wr.heap.size wr u)=>zi3 u pb src a c l' _ (M.length:Int) 16 (PS.out.below hu));have ao:(M.length:Int)=((16 - n:Nat):Int):=by omega
   cases ho:zeE (M.length:Int) 16 l' with
   | error f=>
    have HT:Hid (zcd l=.error f):=show _=_ from by rw[PL.out,zic (n:=n) (m:=16) hr hx (by omega) (by rw[<- ao];exact ho)];rfl
    rw[ho]at aj;clear hx ao ho;go_upto_region 1 with (first | (go_at_call 46;refine X.out.mono ?_;rintro e w2 ⟨I,rfl⟩) | fail);have d5:=zaa I c5;go_wp2_with (first | (go_at_call 47;refine (aj.out _ I).mono ?_;rintro e w3 ⟨ah,rfl⟩;unfold fltE) | fail);exact ⟨rfl,zee.err HT.out ((MK.out.trans (MkO.of_below I)).trans ah)⟩
   | ok p=>
    obtain ⟨y,l1⟩:=p;obtain ⟨n,rfl,aA⟩:=zfV (n:=n) (m:=16) hr (by omega) (by rw[<- ao];exact ho);rw[ho]at aj;clear ao ho;have ag:=hidX (fun u (hu:PSt u pb src a c l1 (RL (.map (some mb)) cm (.slice la M.length lc) lv ev bv)) (hm:MkO (some pb) w u)=>zor u pb mb src a c l1 _ _ _ _ _ hu (HM.out.mko hm (Nat.ne_of_lt aB)) aB);go_upto_region 1 with (first | (go_at_call 46;refine X.out.mono ?_;rintro e w2 ⟨I,rfl⟩) | fail);have d5:=zaa I c5;go_upto_region 2 with (first | (go_at_call 47;refine (aj.out _ I).mono ?_;rintro e w3 ⟨ah,rfl,ar⟩) | fail);have M3:=hidX ((MK.out.trans (MkO.of_below I)).trans ah);have O3:=hidX ((OW.out.mko (MkO.of_below I) O).mko ah O);have P3:=hidX ar;have e5:w3.cell? ⟨pb,4,none⟩=some (.slice la M.length lc):=ar.cell (j:=2) rfl;clear ah ar I d5 c5 aj X
    cases hc:zbh l1 with
    | error f=>
     have HT:Hid (zcd l=.error f):=show _=_ from by rw[PL.out,zfq hr hx aA hc];rfl
     rw[hc]at ag;clear hx;refine zeo (fun ch u=>zee w pb src a c (.map (some mb)) cm lv (zcd l) (.panicked ch) u) (fun _ _ _ h1 h2=>⟨h1,h2⟩) ?_;refine wp_region_held_drew (S:=(fun _=>True)) (by kernel_rfl) ?_ (fun E=>?_)
     ·trivial
     refine tkP 0 E ?_;(try simp only[pA,pZ,pS]);refine tkP 1 E ?_;(try simp only[pA,pZ,pS]);refine tkP 2 E ?_;(try simp only[pA,pZ,pS]);refine tkP 3 E ?_;(try simp only[pA,pZ,pS]);refine tkP 5 E ?_;(try simp only[pA,pZ,pS]);refine r2 4 6 (fun K hK=>?_) fun K hK=>?_
     focus
      go_simp;refine hK.out _ _ (by (try dsimp only);all_goals trivial) fun G=>?_;replace E:=G;clear hK K G;(try simp only[pA,pZ,pS]);refine r1 6 fun K hK=>?_
     rotate_left
     rotate_left
     all_goals
      go_simp;(go_at_call 48;refine (ag.out _ (P3.out.below ((Below.refl _ _).drew)) M3.out.drew).mono ?_;rintro e w4 ⟨ad,rfl⟩;unfold fltE);go_wp2_with fail
      exact ⟨rfl,zee.err HT.out (M3.out.drew.trans ad)⟩
    | ok q=>
     obtain ⟨v,l2⟩:=q;have aG:=hidX (PL.out.trans (zcZ (M:=M.map RX.ru) hr hx aA hc));rw[hc]at ag;clear hx;refine wp_region_noPanic ?_;refine wp_region_held_drew (S:=(fun _=>True)) (by kernel_rfl) ?_ (fun E=>?_)
     ·(try dsimp only)
      all_goals trivial
     refine tk 0 E ?_;(try simp only[pA,pZ,pS]);refine tk 1 E ?_;(try simp only[pA,pZ,pS]);refine tk 2 E ?_;(try simp only[pA,pZ,pS]);refine tk 3 E ?_;(try simp only[pA,pZ,pS]);refine tk 5 E ?_;(try simp only[pA,pZ,pS]);refine r2 4 6 (fun K hK=>?_) fun K hK=>?_
     ·go_simp;refine hK.out _ _ (by (try dsimp only);all_goals trivial) fun G=>?_;replace E:=G;clear hK K G;(try simp only[pA,pZ,pS]);refine r1 6 fun K hK=>?_;go_simp;(go_at_call 48;refine (ag.out _ (P3.out.below ((Below.refl _ _).drew)) M3.out.drew).mono ?_;rintro e w4 ⟨ad,xr,ae,rfl,af,ax,aw,ak⟩;replace ae:=hidX ae;have ap:w4.cell? ⟨pb,4,none⟩=some (.slice la M.length lc):=ak.cell (j:=2) rfl);refine hK.out _ _ (by (try dsimp only);all_goals trivial) fun G=>?_;replace E:=G;clear hK K G;(try simp only[pA,pZ,pS]);refine r1 7 fun K hK=>?_;go_simp;have U:=zHA w4;have aq:∀ o',(w4.alloc o').cell? ⟨pb,4,none⟩=some (.slice la M.length lc):=fun o'=>zaa (U.out o') ap;refine hK.out _ _ (by (try dsimp only);all_goals trivial) fun G=>?_;replace E:=G;clear hK K G;(try simp only[pA,pZ,pS]);have M4:=hidX (M3.out.drew.trans ad);have aJ:=M4.out.rest.size;have OA:=hidX (fun o'=>(((O3.out.mko (MkO.of_below ((Below.refl _ _).drew)) O).mko ad O).mko (MkO.of_below (U.out o')) O:RRow (w4.alloc o') w.heap.size la lc M));have NX:=hidX (af.base (show w.heap.size<=_ by have:=M3.out.rest.size;simpa using this));refine r1 8 fun K hK=>?_;(refine zaq (by rfl) (.tmp 16) (.tmp 19) 24 (by rfl) w.heap.size 39 _ 5 96 Tryz.underlying24 zie (by rfl) (by omega) _ M.length _ (by rfl) (OA.out _).row (some ⟨_,0,none⟩) 1 1 (by rfl) xr.cells (by rfl) (fun e=>by cases e) (zas _ _ _ _ (by simp)) xr.cells_one (by unfold maxLen;omega) (by omega) (by simp;omega) ?_;intro a8 c8 w8 au Z aK);refine hK.out _ _ (by (try dsimp only);all_goals trivial) fun G=>?_;replace E:=G;clear hK K G;(try simp only[pA,pZ,pS]);have ab:∀ k,(Value.slice la M.length lc).ownBlock=some k->w.heap.size<=k:=fun k hk=>(O3.out.row.lt k hk).1;have TY:=hidX (fun o' g hg=>zaA (OA.out o').row (k:=g) hg);have M8:=hidX ((M4.out.trans (MkO.of_below (U.out _))).grown Z.out ab);have P8:=hidX ((ak.below (U.out _)).keep ((Below.refl _ _).grown Z.out (by simp;omega) (fun k hk=>by have:=ab k hk;omega)));have C8:=hidX (show RRow w8 w.heap.size a8 c8 (M ++ [xr]) from ⟨by simpa using au.out,fun x hx=>by
       rcases List.mem_append.1 hx with hx | hx
       ·exact ((OA.out _).all x hx).grown Z.out (TY.out _)
       simp at hx;subst hx;exact (NX.out.mko (MkO.of_below (U.out _)) O).grown Z.out (TY.out _),O3.out.newer (Nat.le_refl _) af⟩)
      have f5:w8.cell? ⟨pb,4,none⟩=some (.slice la M.length lc):=P8.out.cell (j:=2) rfl;have g5:w8.frozen? ⟨pb,4,none⟩=false:=by
       obtain ⟨k',ay⟩:=P8.out.sc;simp[World.frozen?,ay.blk]
      refine tk 9 E ?_;(try simp only[pA,pZ,pS]);refine tk 10 E ?_;(try simp only[pA,pZ,pS]);refine r1 11 fun K hK=>?_;go_simp;refine hK.out _ _ (by (try dsimp only);all_goals trivial) fun G=>?_;replace E:=G;clear hK K G;(try dsimp only);refine wpAnyH_done (by kernel_rfl) ?_ _;refine NoPanic.normal ?_;have P9:=hidX (P8.out.cellSet (j:=2) (v:=.slice a8 (M.length+1) c8) rfl);have M9:=hidX (MkO.set (w:=w8) (g:=pb) (o:=4) (.slice a8 (M.length+1) c8));have C9:=hidX (C8.out.mko M9.out O);clear E;go_wp2_with fail
      go_roundw
      case rel=>exact ⟨a8,c8,n,M ++ [xr],l2,ax,aw,by simp;omega,C9.out,by simpa[RL] using P9.out,M8.out.trans M9.out,by simpa[ae.out] using aG.out⟩
      case measure=>
       have az:lenR pb (w8.setCell ⟨pb,4,none⟩ (.slice a8 (M.length+1) c8))=M.length+1:=by
        unfold lenR;rw[P9.out.cell (j:=2) rfl];rfl
       change 16 - lenR pb (w8.setCell ⟨pb,4,none⟩ (.slice a8 (M.length+1) c8))<16 - lenR pb wr;rw[az,aI.out];omega
     go_simp;(go_at_call 48;refine (ag.out _ (P3.out.below ((Below.refl _ _).drew)) M3.out.drew).mono ?_;rintro e w4 ⟨ad,xr,ae,rfl,af,ax,aw,ak⟩;replace ae:=hidX ae;have ap:w4.cell? ⟨pb,4,none⟩=some (.slice la M.length lc):=ak.cell (j:=2) rfl);refine hK.out _ _ (by (try dsimp only);all_goals trivial) fun G=>?_;replace E:=G;clear hK K G;(try simp only[pA,pZ,pS]);refine r2 4 7 (fun K hK=>?_) fun K hK=>?_
     focus
      go_simp;refine hK.out _ _ (by (try dsimp only);all_goals trivial) fun G=>?_;replace E:=G;clear hK K G;(try simp only[pA,pZ,pS]);refine r1 7 fun K hK=>?_;go_simp;have U:=zHA w4;have aq:∀ o',(w4.alloc o').cell? ⟨pb,4,none⟩=some (.slice la M.length lc):=fun o'=>zaa (U.out o') ap
     rotate_left
     focus
      go_simp;have U:=zHA w4;have aq:∀ o',(w4.alloc o').cell? ⟨pb,4,none⟩=some (.slice la M.length lc):=fun o'=>zaa (U.out o') ap;refine hK.out _ _ (by (try dsimp only);all_goals trivial) fun G=>?_;replace E:=G;clear hK K G;(try simp only[pA,pZ,pS]);refine r1 4 fun K hK=>?_;go_simp
     rotate_left
     all_goals
      refine hK.out _ _ (by (try dsimp only);all_goals trivial) fun G=>?_;replace E:=G;clear hK K G;(try simp only[pA,pZ,pS]);have M4:=hidX (M3.out.drew.trans ad);have aJ:=M4.out.rest.size;have OA:=hidX (fun o'=>(((O3.out.mko (MkO.of_below ((Below.refl _ _).drew)) O).mko ad O).mko (MkO.of_below (U.out o')) O:RRow (w4.alloc o') w.heap.size la lc M));have NX:=hidX (af.base (show w.heap.size<=_ by have:=M3.out.rest.size;simpa using this));refine r1 8 fun K hK=>?_;(refine zaq (by rfl) (.tmp 16) (.tmp 19) 24 (by rfl) w.heap.size 39 _ 5 96 Tryz.underlying24 zie (by rfl) (by omega) _ M.length _ (by rfl) (OA.out _).row (some ⟨_,0,none⟩) 1 1 (by rfl) xr.cells (by rfl) (fun e=>by cases e) (zas _ _ _ _ (by simp)) xr.cells_one (by unfold maxLen;omega) (by omega) (by simp;omega) ?_;intro a8 c8 w8 au Z aK);refine hK.out _ _ (by (try dsimp only);all_goals trivial) fun G=>?_;replace E:=G;clear hK K G;(try simp only[pA,pZ,pS]);have ab:∀ k,(Value.slice la M.length lc).ownBlock=some k->w.heap.size<=k:=fun k hk=>(O3.out.row.lt k hk).1;have TY:=hidX (fun o' g hg=>zaA (OA.out o').row (k:=g) hg);have M8:=hidX ((M4.out.trans (MkO.of_below (U.out _))).grown Z.out ab);have P8:=hidX ((ak.below (U.out _)).keep ((Below.refl _ _).grown Z.out (by simp;omega) (fun k hk=>by have:=ab k hk;omega)));have C8:=hidX (show RRow w8 w.heap.size a8 c8 (M ++ [xr]) from ⟨by simpa using au.out,fun x hx=>by
       rcases List.mem_append.1 hx with hx | hx
       ·exact ((OA.out _).all x hx).grown Z.out (TY.out _)
       simp at hx;subst hx;exact (NX.out.mko (MkO.of_below (U.out _)) O).grown Z.out (TY.out _),O3.out.newer (Nat.le_refl _) af⟩)
      have f5:w8.cell? ⟨pb,4,none⟩=some (.slice la M.length lc):=P8.out.cell (j:=2) rfl;have g5:w8.frozen? ⟨pb,4,none⟩=false:=by
       obtain ⟨k',ay⟩:=P8.out.sc;simp[World.frozen?,ay.blk]
      refine tk 9 E ?_;(try simp only[pA,pZ,pS]);refine tk 10 E ?_;(try simp only[pA,pZ,pS]);refine r1 11 fun K hK=>?_;go_simp;refine hK.out _ _ (by (try dsimp only);all_goals trivial) fun G=>?_;replace E:=G;clear hK K G;(try dsimp only);refine wpAnyH_done (by kernel_rfl) ?_ _;refine NoPanic.normal ?_;have P9:=hidX (P8.out.cellSet (j:=2) (v:=.slice a8 (M.length+1) c8) rfl);have M9:=hidX (MkO.set (w:=w8) (g:=pb) (o:=4) (.slice a8 (M.length+1) c8));have C9:=hidX (C8.out.mko M9.out O);clear E;go_wp2_with fail
      go_roundw
      case rel=>exact ⟨a8,c8,n,M ++ [xr],l2,ax,aw,by simp;omega,C9.out,by simpa[RL] using P9.out,M8.out.trans M9.out,by simpa[ae.out] using aG.out⟩
      case measure=>
       have az:lenR pb (w8.setCell ⟨pb,4,none⟩ (.slice a8 (M.length+1) c8))=M.length+1:=by
        unfold lenR;rw[P9.out.cell (j:=2) rfl];rfl
       change 16 - lenR pb (w8.setCell ⟨pb,4,none⟩ (.slice a8 (M.length+1) c8))<16 - lenR pb wr;rw[az,aI.out];omega
end Go.Proofs.YtjjjagepnnbebaaGreatDoor
namespace Go.Proofs.YtjjjagepnnbebaaGreatDoor
open Go.RowKit
theorem zjc{α:Type}{rd:List Wd->Px α}:∀ {n:Nat}{l l2:List Wd}{vs:List α},zbi rd n l=.ok (vs,l2)->vs.length<=n:=by
 intro n
 induction n with
 | zero=>
  intro l l2 vs h;unfold zbi at h
  cases hr:zaj l with
  | error f=>rw[hr]at h;cases h
  | ok q=>
   rw[hr]at h;simp only at h;split at h
   ·injection h with h;injection h with h _;subst h;simp
   ·split at h <;> cases h
 | succ n E=>
  intro l l2 vs h;unfold zbi at h
  cases hr:zaj l with
  | error f=>rw[hr]at h;cases h
  | ok q=>
   rw[hr]at h;simp only at h;split at h
   ·injection h with h;injection h with h _;subst h;simp
   cases hv:rd l with
   | error f=>rw[hv]at h;cases h
   | ok q=>
    rw[hv]at h;simp only at h
    cases hp:zbi rd n q.2 with
    | error f=>rw[hp]at h;cases h
    | ok p=>
     rw[hp]at h;simp only at h;injection h with h;injection h with h _;subst h;have:=E hp;simp;omega
theorem zj1{σ α:Type}{rd:σ->List Wd->Px (α × σ)}:∀ {n:Nat}{s s2:σ}{l l2:List Wd}{vs:List α},zaB rd n s l=.ok ((vs,s2),l2)->vs.length<=n:=by
 intro n
 induction n with
 | zero=>
  intro s s2 l l2 vs h;unfold zaB at h
  cases hr:zaj l with
  | error f=>rw[hr]at h;cases h
  | ok q=>
   rw[hr]at h;simp only at h;split at h
   ·injection h with h;injection h with h _;injection h with h _;subst h;simp
   ·split at h <;> cases h
 | succ n E=>
  intro s s2 l l2 vs h;unfold zaB at h
  cases hr:zaj l with
  | error f=>rw[hr]at h;cases h
  | ok q=>
   rw[hr]at h;simp only at h;split at h
   ·injection h with h;injection h with h _;injection h with h _;subst h;simp
   cases hv:rd s l with
   | error f=>rw[hv]at h;cases h
   | ok q=>
    obtain ⟨⟨v,s1⟩,l1⟩:=q;rw[hv]at h;simp only at h
    cases hp:zaB rd n s1 l1 with
    | error f=>rw[hp]at h;cases h
    | ok p=>
     obtain ⟨⟨G,I⟩,l3⟩:=p;rw[hp]at h;simp only at h;injection h with h;injection h with h _;injection h with h _;subst h;have:=E hp;simp;omega
theorem zlb{α:Type}{k:Int}{rd:List Wd->Px α}{Q:α->Prop}(E:∀ l v l2,rd l=.ok (v,l2)->Q v):∀ {n:Nat}{l l2:List Wd}{vs:List α},za1 k rd n l=.ok (vs,l2)->vs.length<=n/\∀ v∈vs,Q v:=by
 intro n
 induction n with
 | zero=>
  intro l l2 vs h;unfold za1 at h
  cases hr:zaj l with
  | error f=>rw[hr]at h;cases h
  | ok q=>
   rw[hr]at h;simp only at h;split at h
   ·injection h with h;injection h with h _;subst h;simp
   ·split at h <;> cases h
 | succ n G=>
  intro l l2 vs h;unfold za1 at h
  cases hr:zaj l with
  | error f=>rw[hr]at h;cases h
  | ok q=>
   rw[hr]at h;simp only at h;split at h
   ·injection h with h;injection h with h _;subst h;simp
   cases ht:zai 40 l with
   | error f=>rw[ht]at h;cases h
   | ok q=>
    rw[ht]at h;simp only at h
    cases hv:rd q.2 with
    | error f=>rw[hv]at h;cases h
    | ok q=>
     obtain ⟨v,l1⟩:=q;rw[hv]at h;simp only at h
     cases hp:za1 k rd n l1 with
     | error f=>rw[hp]at h;cases h
     | ok p=>
      obtain ⟨I,l3⟩:=p;rw[hp]at h;simp only at h;injection h with h;injection h with h _;subst h;obtain ⟨h1,h2⟩:=G hp;refine ⟨by simp;omega,fun y hy=>?_⟩;rcases List.mem_cons.1 hy with rfl | hy
      ·exact E _ _ _ hv
      exact h2 y hy
theorem znR{σ α:Type}{k:Int}{rd:σ->List Wd->Px (α × σ)}{Q:α->Prop}{J:σ->Prop}(G:∀ s l v s2 l2,J s->rd s l=.ok ((v,s2),l2)->Q v/\J s2):∀ {n:Nat}{s s2:σ}{l l2:List Wd}{vs:List α},J s->zaK k rd n s l=.ok ((vs,s2),l2)->vs.length<=n/\(∀ v∈vs,Q v)/\J s2:=by
 intro n
 induction n with
 | zero=>
  intro s s2 l l2 vs E h;unfold zaK at h
  cases hr:zaj l with
  | error f=>rw[hr]at h;cases h
  | ok q=>
   rw[hr]at h;simp only at h;split at h
   ·injection h with h;injection h with h _;injection h with h hs;subst h;subst hs;exact ⟨by simp,by simp,E⟩
   ·split at h <;> cases h
 | succ n O=>
  intro s s2 l l2 vs E h;unfold zaK at h
  cases hr:zaj l with
  | error f=>rw[hr]at h;cases h
  | ok q=>
   rw[hr]at h;simp only at h;split at h
   ·injection h with h;injection h with h _;injection h with h hs;subst h;subst hs;exact ⟨by simp,by simp,E⟩
   cases ht:zai 40 l with
   | error f=>rw[ht]at h;cases h
   | ok q=>
    rw[ht]at h;simp only at h
    cases hv:rd s q.2 with
    | error f=>rw[hv]at h;cases h
    | ok q=>
     obtain ⟨⟨v,s1⟩,l1⟩:=q;rw[hv]at h;simp only at h;obtain ⟨U,I⟩:=G _ _ _ _ _ E hv
     cases hp:zaK k rd n s1 l1 with
     | error f=>rw[hp]at h;cases h
     | ok p=>
      obtain ⟨⟨X,Z⟩,l3⟩:=p;rw[hp]at h;simp only at h;injection h with h;injection h with h _;injection h with h hs;subst h;subst hs;obtain ⟨h1,h2,h3⟩:=O I hp;refine ⟨by simp;omega,fun y hy=>?_,h3⟩;rcases List.mem_cons.1 hy with rfl | hy
      ·exact U
      exact h2 y hy
theorem zqv(l:List Wd)(v:Pt)(l2:List Wd)(h:pPat l=.ok (v,l2)):v.terms.length<=6:=by
 obtain ⟨x,l1,_,h⟩:=zaS h;split at h
 focus
  obtain ⟨y,l3,_,h⟩:=zaS h
 rotate_left
 rotate_left
 all_goals
  obtain ⟨z,l4,hz,h⟩:=zaS h;injection h with h;injection h with h _;subst h;exact zjc hz
theorem zqe{s s':ES}{l l':List Wd}{v:Ac}(h:pAct s l=.ok ((v,s'),l')):v.args.length<=6:=by
 obtain ⟨x,l1,_,h⟩:=zaS h;split at h
 ·obtain ⟨y,l2,_,h⟩:=zaS h;injection h with h;injection h with h _;injection h with h _;subst h;simp
 split at h
 ·obtain ⟨y,l2,_,h⟩:=zaS h;obtain ⟨⟨vs,s1⟩,l3,hp,h⟩:=zaS h;injection h with h;injection h with h _;injection h with h _;subst h;exact zj1 hp
 split at h
 ·obtain ⟨y,l2,_,h⟩:=zaS h;obtain ⟨z,l3,_,h⟩:=zaS h;injection h with h;injection h with h _;injection h with h _;subst h;simp
 split at h
 ·obtain ⟨y,l2,_,h⟩:=zaS h;obtain ⟨⟨vs,s1⟩,l3,hp,h⟩:=zaS h;injection h with h;injection h with h _;injection h with h _;subst h;exact zj1 hp
 cases h
structure RuB (x:Ru):Prop where
 p:x.pats.length<=6
 pt:∀ y∈x.pats,y.terms.length<=6
 e:x.exprs.length<=60
 a:x.acts.length<=8
 ai:∀ y∈x.acts,y.args.length<=6
theorem zpt(l:List Wd)(v:Ru)(l2:List Wd)(h:zbh l=.ok (v,l2)):RuB v:=by
 obtain ⟨x,l1,_,h⟩:=zaS h;split at h
 ·obtain ⟨nm,l3,_,h⟩:=zaS h;obtain ⟨sl,l4,_,h⟩:=zaS h;obtain ⟨ps,l5,E,h⟩:=zaS h;obtain ⟨_,l6,_,h⟩:=zaS h;obtain ⟨⟨acs,es⟩,l7,has,h⟩:=zaS h;obtain ⟨_,X,_,h⟩:=zaS h;injection h with h;injection h with h _;subst h;obtain ⟨I,O⟩:=zlb (Q:=fun v=>v.terms.length<=6) zqv E;obtain ⟨U,a2,a3⟩:=znR (Q:=fun v:Ac=>v.args.length<=6) (J:=fun s:ES=>s.1.length<=s.2/\s.2<=60) (fun s l v s2 l2 G hp=>⟨zqe hp,ziv G.1 G.2 hp⟩) ⟨by simp,by simp⟩ has;exact ⟨I,O,Nat.le_trans a3.1 a3.2,U,a2⟩
 cases h
theorem zp6{src:Bs}{vs:List Ru}{l:List Wd}(h:prR src=.ok (vs,l)):vs.length<=16/\∀ x∈vs,RuB x:=by
 unfold prR at h;split at h
 ·cases h
 exact zlb (Q:=RuB) zpt h
end Go.Proofs.YtjjjagepnnbebaaGreatDoor
