import Derived.Test.YtikojfajahnhgaaGreatKbe
set_option linter.all false
set_option maxHeartbeats 6400000
set_option maxRecDepth 100000
namespace Go.Proofs.YtikojfajahnhgaaGreat
attribute [local simp] At I6 Pn mzI
attribute [local go_sem] At I6 Pn
open Go.RowKit Go.Proofs.Tryz
attribute [local go_sem ↓] wp_at_zero wp_at_succ
def ZO{P:Prop}(h:P:=by
 obtain⟨HQ,HJ,bN,HM,bf,HI,aq,HF,bH⟩:=Ja hq hJ hTT hM hB hI hK hF hfit;obtain⟨bj,bz,HP⟩:=AQ hok hcnt (Qk ndb al aa ac (.pointer (some (adr f))) f w hN hF hal);have n2:=AF (L:=[_,_,_,_,_,_,_,_]) hq (j:=2) rfl;have n5:=AF (L:=[_,_,_,_,_,_,_,_]) hq (j:=5) rfl;have bX:=hB.lt;obtain⟨fn,a9⟩:∃fn,fn=K.fn:=⟨_,rfl⟩
 obtain⟨r,hr⟩:∃r,r=K.r:=⟨_,rfl⟩
 rw[<-a9,<-hr]at hH;obtain⟨bo,HR⟩:=Ak a9 hr;clear hq hJ hTT hM hB hI hK hN hF hfit hok hcnt a9 hr;cases hp:Ae al f
 .rw[hp]at HP;go_enter func319,ntmps319;go_wp2_with (first|(go_at_call 152;refine HP.o.an λw1 ai=>?_)|fail);refine bodyPost_ret (v:=.tuple #[]) (results_none rfl _ _ _) rfl ⟨rfl,⟨TT,a,.refl _,?_,aq.o.1 w w1 a HI.o (CK.ab ai) (λg hg _=>ai.block g hg) ai.size,?_⟩,HM.o.J ai,CK.ab ai,Av.ab ai⟩
  .first
    | (have _:=tP
       have:TT.filter (λT=>false&&(ts.all (Aq T f)&&decide (Ar (Ab adr T) B=0)))=[]:=by simp)
    |(have:TT.filter (λT=>false&&(ts.all (Aq T f)&&decide (Ar (Ab adr T) B=1)))=[]:=by simp)
   rw[this];rfl
  have:TT.filter (λT=>false&&ts.all (Aq T f))=[]:=by simp
  rw[this];exact bf.o.J ai
 .rw[hp]at HP;obtain⟨bA,aS,bh⟩:=AQ (bH.o hp) (bj.o hp) (bz.o hp);clear bH bj bz;go_enter func319,ntmps319;go_upto_region 1 with(first|(go_at_call 152;refine HP.o.an λw1 ai=>?_)|fail);have m5:=zab ai n5;obtain⟨o,hR,aT⟩:=Ve (P:=prog) EJ (HM.o.J ai);obtain⟨br,bd⟩:=Ak aT ai;clear aT ai;have b4:=br.o.dd;have bK:=Aa (Aj.alloc AA o:Bw w1 (w1.alloc o));have bM:(TT.map (Ab adr)).Nodup:=by have:=HM.o.nd;rwa [Pp]at this
  have bJ:=Aa bM;have hs1:=bd.o.size;have bt:¬K.S w1.heap.size:=λh=>by have:=hSl _ h;omega
  have bc:w1.heap.size≠bb:=by omega
  go_wp2_with fail
  first
   | (have _:=tP
      go_loopw [] (λwr=>∃(done todo:List (List F))(a':σ),TT.Perm (done++todo)/\A6 wr tb w1.heap.size (uv (TT.map (Ab adr))) (todo.map (Ab adr))/\BG K.aG (done.filter (λT=>ts.all (Aq T f)&&decide (Ar (Ab adr T) B=0))) a a'/\K.I wr a'/\Ag wr bb (iv (Dl adr 1 (done.filter (λT=>ts.all (Aq T f))) B))/\CK w wr/\Av (λg=>g=bb∨K.S g) w wr) (λwr=>wr.rangeLeft tb w1.heap.size))
   |(go_loopw [] (λwr=>∃(done todo:List (List F))(a':σ),TT.Perm (done++todo)/\A6 wr tb w1.heap.size (uv (TT.map (Ab adr))) (todo.map (Ab adr))/\BG K.aG (done.filter (λT=>ts.all (Aq T f)&&decide (Ar (Ab adr T) B=1))) a a'/\K.I wr a'/\Ag wr bb (iv (Dl adr (-1) (done.filter (λT=>ts.all (Aq T f))) B))/\CK w wr/\Av (λg=>g=bb∨K.S g) w wr) (λwr=>wr.rangeLeft tb w1.heap.size))
  case atStart=>
   have aC:Bw w (w1.alloc o):=bd.o.j (bK.o.ac hs1);exact⟨[],TT,a,.refl _,br.o,rfl,aq.o.1 w _ a HI.o (CK.ab aC) (λg hg _=>aC.block g hg) aC.size,bf.o.J aC,CK.ab aC,Av.ab aC⟩
  case round=>
   obtain⟨done,todo,a',bg,az,bp,bu,bE,bq,bk⟩:=hrel;obtain⟨aH,bD,aD,bw,bC,bn,aL⟩:=H5 bg az bp bu bE bq bk;clear bg bp bu bE bq bk;rcases RU (P:=prog) az 0 with⟨h0,hN⟩|⟨x,v,ob,w2,hx,bZ,bV,hN,aE,hE⟩
   .have bP:todo=[]:=Ki.1 h0;clear az;go_wp2_with fail;refine bodyPost_end (results_none rfl _ _ _) rfl ⟨rfl,⟨done,a',?_,?_,bw.o,?_⟩,bD.o.map,bn.o,aL.o⟩
    .have:=aH.o;rwa [bP,yM]at this
    .simpa using aD.o
    simpa using bC.o
   obtain⟨T,hT,rfl⟩:=yz.1 hx;have hO:=SG (r:=w1.heap.size) (o:=ob) bV;obtain⟨W,hW⟩:∃W,W=ChangeMaps.setBlock w2 w1.heap.size ob:=⟨_,rfl⟩
   rw[<-hW]at hN aE hE hO;have aR:=Aa aE;have a7:=hO.ck az.cD;have bm:=bn.o.j a7;have bI:K.I W a':=aq.o.1 wr W a' bw.o a7 (λg hg hS=>hO.block g hg (λe'=>bt (by injection e' with e';rw[e'];exact hS))) hO.rest.size;have bi:=Aa (bC.o.aI hO bc (λc t=>az.cD c t (0,0)));have a4:T∈TT:=aH.o.ai.subset (YA _ hT);obtain⟨bl,bF⟩:=bN.o T a4;have aM:=(aH.o.map (Ab adr)).nodup_iff.1 bJ.o;rw[yJ,yP]at aM;have aw:=PJ (k:=Ab adr) (l:=todo) (T:=T) aM.2.1 hT;have bv:=Aa (λhx:Ab adr T∈done.map (Ab adr)=>aM.2.2 _ hx _ (yT hT) rfl);obtain⟨O,a8⟩:∃q,q=todo.filter (λU=>decide (Ab adr U≠Ab adr T)):=⟨_,rfl⟩
   rw[<-a8]at aw;have ax:Hid (TT.Perm (done++T::O)):=show List.Perm _ _ from aH.o.j ((Wc _).append aw);obtain⟨aY,ao,aV,bR,a6⟩:=DU bI bm hO bl bF;have aA:=az.left;have au:O.length<todo.length:=by have:=aw.length_eq;simp at this;omega
   simp only[Ab,AU]at hN hE;have aU:A6 W tb w1.heap.size (uv (TT.map (Ab adr))) (O.map (Ab adr)):=by
    have:=aR.o;rw[Y8]at this;rw[a8];exact this
   have aF:=Aa aU;clear az aE bI bm hO a7 hW aw bl bF aM aU aR a8;go_upto_region 4 with fail;refine Bt ?_;intro w3 aZ bG;obtain⟨t0,t1,t2⟩:=C7 bG rfl;have ay:=Aa aZ;have q3:=(ao.o.j (CK.ab aZ)) nb _ _ _ HQ.o;have p0:=AF (L:=[_,_,_,_,_,_,_,_]) q3 (j:=0) rfl;have p1:=AF (L:=[_,_,_,_,_,_,_,_]) q3 (j:=1) rfl;have p2:=AF (L:=[_,_,_,_,_,_,_,_]) q3 (j:=2) rfl;have p3:=AF (L:=[_,_,_,_,_,_,_,_]) q3 (j:=3) rfl;have p6:=AF (L:=[_,_,_,_,_,_,_,_]) q3 (j:=6) rfl;have p7:=AF (L:=[_,_,_,_,_,_,_,_]) q3 (j:=7) rfl;have aG:=Aa (λ(u:World)(hu:Bw w3 u)=>MQ ng ct (Pn ndb) (.pointer (T[0]?.map adr)) (.pointer (T[1]?.map adr)) (.pointer (T[2]?.map adr)) (.pointer (some (adr f))) ts ta tc T f u (HJ.o.ck (ao.o.j (CK.ab (ay.o.aj hu)))) (bR.o.ck (ao.o.j (CK.ab (ay.o.aj hu)))) (HF.o.ck (ao.o.j (CK.ab (ay.o.aj hu)))) hl (bA.o T a4));clear aZ q3 bG
   cases ha:ts.all (Aq T f)
   .rw[ha]at aG
    go_region_held3 (λu=>At u nb 0 ng/\At u nb 1 ct/\At u nb 2 (Pn ndb)/\At u nb 3 (.slice ta ts.length tc)/\At u nb 6 hv/\At u nb 7 (.map (some bb))/\At u W.heap.size 0 (.pointer (T[0]?.map adr))/\At u W.heap.size 1 (.pointer (T[1]?.map adr))/\At u W.heap.size 2 (.pointer (T[2]?.map adr)))
     ((go_split_ands;first|done|(refine⟨?_,?_,?_,?_,?_,?_,?_,?_,?_⟩<;>first|assumption|with_reducible exact zab aB (by assumption)|exact zab Aj.drew (by assumption)))) (first|(go_at_call 113;refine(aG.o _ Aj.drew).an λw4 aB=>?_)|fail)
    have hb':Bw W w4:=ay.o.j (((Yw w3.heap.size w3).drew.j aB).ac ay.o.size);have ak:=Aa hb';clear aB hb' p0 p1 p2 p3 p6 p7 t0 t1 t2;go_wp2_with fail;have Y:=aF.o.J ak.o;refine⟨⟨done++[T],O,a',?_,Y,?_,aq.o.1 W w4 a' aY.o (CK.ab ak.o) (λg hg _=>ak.o.block g hg) ak.o.size,?_,ao.o.j (CK.ab ak.o),?_⟩,?_⟩
    .have:=ax.o;exact Qu
    .first
      | (have _:=tP
         rw[yQ,yN (p:=λT=>ts.all (Aq T f)&&decide (Ar (Ab adr T) B=0)) (a:=T) (by rw[ha];simp),YC,yM])
      |(rw[yQ,yN (p:=λT=>ts.all (Aq T f)&&decide (Ar (Ab adr T) B=1)) (a:=T) (by rw[ha];simp),YC,yM])
     exact aD.o
    .rw[yQ,yN (p:=λT=>ts.all (Aq T f)) (a:=T) (by rw[ha];decide),YC,yM];exact bi.o.J ak.o
    .exact(aL.o.new aV.o hs1).j (Av.ab ak.o)
    rw[Y.left,aA,yp,yp];exact au
   obtain⟨k,hk,b5⟩:=bh.o T a4 ha;have HK:=Aa hk;clear hk;rw[ha]at aG
   go_region_held3 (λu=>At u nb 0 ng/\At u nb 1 ct/\At u nb 2 (Pn ndb)/\At u nb 3 (.slice ta ts.length tc)/\At u nb 6 hv/\At u nb 7 (.map (some bb))/\At u W.heap.size 0 (.pointer (T[0]?.map adr))/\At u W.heap.size 1 (.pointer (T[1]?.map adr))/\At u W.heap.size 2 (.pointer (T[2]?.map adr)))
    ((go_split_ands;first|done|(refine⟨?_,?_,?_,?_,?_,?_,?_,?_,?_⟩<;>first|assumption|with_reducible exact zab aB (by assumption)|exact zab Aj.drew (by assumption)))) (first|(go_at_call 113;refine(aG.o _ Aj.drew).an λw4 aB=>?_)|fail)
   rename_i hh;have hb':Bw W w4:=ay.o.j (((Yw w3.heap.size w3).drew.j aB).ac ay.o.size);have ah:=Aa hb';clear aB hb' p0 p1 p2 p3 p6 p7 t0 t1 t2 aG;obtain⟨m0,m1,m2,m3,m6,m7,v0,v1,v2⟩:=hh;have a0:=Aa (a6.o.ck (ao.o.j (CK.ab ah.o)))
   first
    | (have _:=tP
       have aQ:Ar (Ab adr T) (Dl adr 1 (done.filter (λT=>ts.all (Aq T f))) B)=(k:Int):=(Oo adr 1 _ _ B (λhx=>bv.o (((YH (p:=λT=>ts.all (Aq T f)) (l:=done)).map (Ab adr)).subset hx))).j HK.o)
    |(have aQ:Ar (Ab adr T) (Dl adr (-1) (done.filter (λT=>ts.all (Aq T f))) B)=(k:Int)+1:=(Oo adr (-1) _ _ B (λhx=>bv.o (((YH (p:=λT=>ts.all (Aq T f)) (l:=done)).map (Ab adr)).subset hx))).j HK.o)
   have ar:=Aa (bi.o.J ah.o)
   first
    | (have _:=tP
       obtain⟨Bd,aP⟩:∃Bd,Bd=Dl adr 1 (done.filter (λT=>ts.all (Aq T f))) B:=⟨_,rfl⟩)
    |(obtain⟨Bd,aP⟩:∃Bd,Bd=Dl adr (-1) (done.filter (λT=>ts.all (Aq T f))) B:=⟨_,rfl⟩)
   rw[<-aP]at aQ ar;obtain⟨bB,aX⟩:=Ak aP aQ;clear aP aQ;have L5:=MM tys IH (LN w4.drew) (ar.o.J Aj.drew) (a0.o.J Aj.drew) false;rw[MA]at L5;simp only[if_false,YE]at L5;rw[aX.o]at L5;simp only[Ab,AU]at L5
   first
    | (have _:=tP
       have aI:=Aa (RR nb bb Bd (Ab adr T) ((k:Int)+1) w4.drew m7 (ar.o.J Aj.drew) (a0.o.J Aj.drew)))
    |(have aI:=Aa (RR nb bb Bd (Ab adr T) ((k:Int)) w4.drew m7 (ar.o.J Aj.drew) (a0.o.J Aj.drew)))
   simp only[Ab,AU]at aI
   first
    | (have _:=tP
       have bQ:IntKind.i64.wrap ((k:Int)+1)=(k:Int)+1:=by
         rw[yS];omega)
    |(have bQ:IntKind.i64.wrap ((k:Int)+1+(-1))=(k:Int):=by
         rw[yS];omega)
   have b0:IntKind.i64.wrap (k:Int)=(k:Int):=by
    exact Nc
   have bY:((k:Int)+1==0)=false:=by
    simp;omega
   by_cases hz:k=0
   .have bO:((k:Int)==0)=true:=by simpa using hz
    have HZ:=Aa hz;clear hz;go_wp2_with fail;go_region;clear L5;go_wp2_with (first|(go_at_call 321;refine aI.o.an λw5⟨aJ,am⟩=>?_;have af:=am.ck (ar.o.J Aj.drew).aV;have u0:=af.cell v0;have u1:=af.cell v1;have u2:=af.cell v2;have u6:=af.cell m6;clear v0 v1 v2 m0 m1 m2 m3 m6 m7)|fail);have C5:=(CK.ab ah.o.drew).j af;have hsz:=yi ah.o.drew.size am.rest.size;have I5:=aq.o.1 W w5 a' aY.o C5 (λg hg hS=>(am.block g (yh hg ah.o.drew.size) (λe'=>hbb (by injection e' with e';rw[e'];exact hS))).j (ah.o.drew.block g hg)) hsz;have P5:Hid (Av (λg=>g=bb) W w5):=show Av _ _ _ from(Av.ab ah.o.drew).j (Av.of am rfl);obtain⟨R5,bW,bT⟩:=AQ (aF.o.aM P5.o C5 htb2 bc) aJ C5
    first
     | (have _:=tP
        have aN:Hid (∀u,Bw w5 u->Ca fn #[Pn r,.agg #[.pointer (T[0]?.map adr),.pointer (T[1]?.map adr),.pointer (T[2]?.map adr)],I6 (-1)] u λe u'=>e=.returned (.tuple #[])/\∃av,K.aG T a' av/\K.I u' av/\CK u u'/\Av K.S u u'):=show∀_,_ fromλu hu=>by
          rw[bo.o,HR.o];exact aq.o.2 u a' T (aq.o.1 w5 u a' I5 (CK.ab hu) (λg hg _=>hu.block g hg) hu.size) (aS.o done T O a' ax.o ha (HK.o.j (by rw[HZ.o];rfl)) aD.o) ((a6.o.ck (ao.o.j C5)).J hu))
     |(have aN:Hid (∀u,Bw w5 u->Ca fn #[Pn r,.agg #[.pointer (T[0]?.map adr),.pointer (T[1]?.map adr),.pointer (T[2]?.map adr)],I6 1] u λe u'=>e=.returned (.tuple #[])/\∃av,K.aG T a' av/\K.I u' av/\CK u u'/\Av K.S u u'):=show∀_,_ fromλu hu=>by
          rw[bo.o,HR.o];exact aq.o.2 u a' T (aq.o.1 w5 u a' I5 (CK.ab hu) (λg hg _=>hu.block g hg) hu.size) (aS.o done T O a' ax.o ha (HK.o.j (by rw[HZ.o];rfl)) aD.o) ((a6.o.ck (ao.o.j C5)).J hu))
    clear aJ am af C5 hsz I5;rcases hH with⟨rfl,rfl⟩|⟨rfl,rfl⟩|⟨rfl,rfl⟩
    focus
     have hm:=λu=>PV r u
     go_region_held3 (λu=>At u W.heap.size 0 (.pointer (T[0]?.map adr))∧At u W.heap.size 1 (.pointer (T[1]?.map adr))∧At u W.heap.size 2 (.pointer (T[2]?.map adr))∧At u nb 6 (.func (.method "loop.example/s01311/impl.take") #[.iface 337 (Pn r)] #[]))
      ((go_split_ands;first|done|(refine⟨?_,?_,?_,?_⟩<;>first|assumption|with_reducible exact CK.cell aj (by assumption)|exact zab Aj.drew (by assumption)))) (first|(go_at_call 325;refine(aN.o _ Aj.drew).an λw6⟨av,aK,hi6,aj,aO⟩=>?_)|fail)
    rotate_left
    focus
     have hm:=λu=>PO r u
     go_region_held3 (λu=>At u W.heap.size 0 (.pointer (T[0]?.map adr))∧At u W.heap.size 1 (.pointer (T[1]?.map adr))∧At u W.heap.size 2 (.pointer (T[2]?.map adr))∧At u nb 6 (.func (.method "loop.example/s01311/impl.take") #[.iface 334 (Pn r)] #[]))
      ((go_split_ands;first|done|(refine⟨?_,?_,?_,?_⟩<;>first|assumption|with_reducible exact CK.cell aj (by assumption)|exact zab Aj.drew (by assumption)))) (first|(go_at_call 320;refine(aN.o _ Aj.drew).an λw6⟨av,aK,hi6,aj,aO⟩=>?_)|fail)
    rotate_left
    focus
     go_region_held3 (λu=>At u W.heap.size 0 (.pointer (T[0]?.map adr))/\At u W.heap.size 1 (.pointer (T[1]?.map adr))/\At u W.heap.size 2 (.pointer (T[2]?.map adr))/\At u nb 6 (.func (.func 155) #[Pn r] #[]))
      ((go_split_ands;first|done|(refine⟨?_,?_,?_,?_⟩<;>first|assumption|with_reducible exact CK.cell aj (by assumption)|exact zab Aj.drew (by assumption)))) (first|(go_at_call 155;refine(aN.o _ Aj.drew).an λw6⟨av,aK,hi6,aj,aO⟩=>?_)|fail)
    rotate_left
    all_goals
     obtain⟨bL,bS,aW,a5⟩:=BE aK hi6 aj aO;clear aK hi6 aj aO u0 u1 u2 u6;go_wp2_with fail;have Y:=(R5.o.J Aj.drew).aM a5.o aW.o htb bt;refine⟨⟨done++[T],O,av,?_,Y,?_,bS.o,?_,ao.o.j (bT.o.j ((CK.ab Aj.drew).j aW.o)),?_⟩,?_⟩
     .have:=ax.o;exact Qu
     .first
       | (have _:=tP
          rw[yQ,yL (p:=λT=>ts.all (Aq T f)&&decide (Ar (Ab adr T) B=0)) (a:=T) (by rw[ha,HK.o,HZ.o];rfl),YC])
       |(rw[yQ,yL (p:=λT=>ts.all (Aq T f)&&decide (Ar (Ab adr T) B=1)) (a:=T) (by rw[ha,HK.o,HZ.o];rfl),YC])
      exact aD.o.snoc bL.o
     .rw[yQ,yL (p:=λT=>ts.all (Aq T f)) (a:=T) ha,YC,VP,<-bB.o,aX.o];have bU:=(bW.o.J Aj.drew).aM a5.o aW.o hbb
      first
       |(have _:=tP)
       |(rw[show(k:Int)+1 + -1=(k:Int) from by omega])
      exact bU
     .exact((aL.o.new aV.o hs1).j (P5.o.ac λg q=>.inl q)).j ((Av.ab Aj.drew).j (a5.o.ac λg q=>.inr q))
     rw[Y.left,aA,yp,yp];exact au
   have bO:((k:Int)==0)=false:=by simpa using hz
   have HZ:=Aa hz;clear hz;go_wp2_with fail;go_region;clear L5;go_wp2_with (first|(go_at_call 321;refine aI.o.an λw5⟨aJ,am⟩=>?_;have af:=am.ck (ar.o.J Aj.drew).aV;clear v0 v1 v2 m0 m1 m2 m3 m6 m7)|fail);have C5:=(CK.ab ah.o.drew).j af;have hsz:=yi ah.o.drew.size am.rest.size;have I5:=aq.o.1 W w5 a' aY.o C5 (λg hg hS=>(am.block g (yh hg ah.o.drew.size) (λe'=>hbb (by injection e' with e';rw[e'];exact hS))).j (ah.o.drew.block g hg)) hsz;have P5:Av (λg=>g=bb) W w5:=(Av.ab ah.o.drew).j (Av.of am rfl);have Y:=aF.o.aM P5 C5 htb2 bc;refine⟨⟨done++[T],O,a',?_,Y,?_,I5,?_,ao.o.j C5,?_⟩,?_⟩
   .have:=ax.o;exact Qu
   .first
     | (have _:=tP
        rw[yQ,yN (p:=λT=>ts.all (Aq T f)&&decide (Ar (Ab adr T) B=0)) (a:=T) (by have:=HZ.o;rw[HK.o];simp;omega),YC,yM])
     |(rw[yQ,yN (p:=λT=>ts.all (Aq T f)&&decide (Ar (Ab adr T) B=1)) (a:=T) (by have:=HZ.o;rw[HK.o];simp;omega),YC,yM])
    exact aD.o
   .rw[yQ,yL (p:=λT=>ts.all (Aq T f)) (a:=T) ha,YC,VP,<-bB.o,aX.o]
    first
     |(have _:=tP)
     |(rw[show(k:Int)+1 + -1=(k:Int) from by omega])
    exact aJ
   .exact(aL.o.new aV.o hs1).j (P5.ac λg q=>.inl q)
   rw[Y.left,aA,yp,yp];exact au
 ):P:=h
def zQ{σ}(K:CA σ)(adr)(hK:K.Good adr (-1))(nb ndb tb bb ng ct up hv ta aa tc ac ts al)(TT:List (List F))(f B a w)(hq:NN w nb ng ct (Pn ndb) up hv ta ts.length tc tb bb)(hH:Ht hv K.fn K.r)(hN:CO w ndb al aa ac)(hF:Ee w (.pointer (some (adr f))) f)(hal:al.ah.length<=1048576)(hJ:DQ w ta ts)(hl:ts.length<=1048576)(hTT:∀T∈TT,Ej w (.pointer (T[0]?.map adr)) (.pointer (T[1]?.map adr)) (.pointer (T[2]?.map adr)) T/\AK w (Ab adr T))(hfit:Ae al f=true->∀T∈TT,∀t∈ts,t.fits T f)(hM:Ag w tb (uv (TT.map (Ab adr))))(hB:Ag w bb (iv B))(htb2:tb≠bb)(hcnt:Ae al f=true->∀T∈TT,ts.all (Aq T f)=true->∃k:Nat,Ar (Ab adr T) B=(k:Int)/\k<=1000)(hI:K.I w a)(htb:¬K.S tb)(hbb:¬K.S bb)(hSl:∀g,K.S g->g<w.heap.size)(hok:Ae al f=true->∀(b:List (List F))(T:List F)(Y:List (List F))(a':σ),TT.Perm (b++T::Y)->ts.all (Aq T f)=true->Ar (Ab adr T) B=0->BG K.aG (b.filter (λT=>ts.all (Aq T f)&&decide (Ar (Ab adr T) B=0))) a a'->K.ok T a') :
  Ca 319 #[Pn nb,.pointer (some (adr f)),I6 1] w λe w'=>e=.returned (.tuple #[])/\(∃O a',TT.Perm O/\BG K.aG (O.filter (λT=>Ae al f&&(ts.all (Aq T f)&&decide (Ar (Ab adr T) B=0)))) a a'/\K.I w' a'/\Ag w' bb (iv (Dl adr 1 (O.filter (λT=>Ae al f&&ts.all (Aq T f))) B)))/\Ag w' tb (uv (TT.map (Ab adr)))/\CK w w'/\Av (λg=>g=bb∨K.S g) w w':=by
 have tP:=trivial;exact ZO
def zE{σ}(K:CA σ)(adr)(hK:K.Good adr 1)(nb ndb tb bb ng ct up hv ta aa tc ac ts al)(TT:List (List F))(f B a w)(hq:NN w nb ng ct (Pn ndb) up hv ta ts.length tc tb bb)(hH:Ht hv K.fn K.r)(hN:CO w ndb al aa ac)(hF:Ee w (.pointer (some (adr f))) f)(hal:al.ah.length<=1048576)(hJ:DQ w ta ts)(hl:ts.length<=1048576)(hTT:∀T∈TT,Ej w (.pointer (T[0]?.map adr)) (.pointer (T[1]?.map adr)) (.pointer (T[2]?.map adr)) T/\AK w (Ab adr T))(hfit:Ae al f=true->∀T∈TT,∀t∈ts,t.fits T f)(hM:Ag w tb (uv (TT.map (Ab adr))))(hB:Ag w bb (iv B))(htb2:tb≠bb)(hcnt:Ae al f=true->∀T∈TT,ts.all (Aq T f)=true->∃k:Nat,Ar (Ab adr T) B=(k:Int)+1/\k<=1000)(hI:K.I w a)(htb:¬K.S tb)(hbb:¬K.S bb)(hSl:∀g,K.S g->g<w.heap.size)(hok:Ae al f=true->∀(b:List (List F))(T:List F)(Y:List (List F))(a':σ),TT.Perm (b++T::Y)->ts.all (Aq T f)=true->Ar (Ab adr T) B=1->BG K.aG (b.filter (λT=>ts.all (Aq T f)&&decide (Ar (Ab adr T) B=1))) a a'->K.ok T a') :
  Ca 319 #[Pn nb,.pointer (some (adr f)),I6 (-1)] w λe w'=>e=.returned (.tuple #[])/\(∃O a',TT.Perm O/\BG K.aG (O.filter (λT=>Ae al f&&(ts.all (Aq T f)&&decide (Ar (Ab adr T) B=1)))) a a'/\K.I w' a'/\Ag w' bb (iv (Dl adr (-1) (O.filter (λT=>Ae al f&&ts.all (Aq T f))) B)))/\Ag w' tb (uv (TT.map (Ab adr)))/\CK w w'/\Av (λg=>g=bb∨K.S g) w w':=by
 exact ZO
end Go.Proofs.YtikojfajahnhgaaGreat
