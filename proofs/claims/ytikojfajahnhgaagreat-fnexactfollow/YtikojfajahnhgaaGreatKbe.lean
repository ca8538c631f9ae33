import Derived.Test.YtikojfajahnhgaaGreatKbd
set_option linter.all false
set_option maxHeartbeats 6400000
set_option maxRecDepth 100000
namespace Go.Proofs.YtikojfajahnhgaaGreat
attribute [local simp] At I6 Pn mzI
attribute [local go_sem] At I6 Pn
open Go.RowKit Go.Proofs.Tryz
section
attribute [local go_sem ↓] wp_at_zero wp_at_succ
def NN(w:World)(nb:Nat)(ng ct nd up hv:Value)(ta:Option Addr)(n tc tb bb:Nat):Prop:=w.heap[nb]?=some (.cells #[ng,ct,nd,.slice ta n tc,up,.map (some tb),hv,.map (some bb)] 336 (0,0))
def fV(x v M):Ar x (DL x v M)=v:=by
 have h:=MA x (DL x v M);rw[<-Og,RJ]at h;simpa using h.ai
def f9(x M):Ar x (EL x M)=0:=by
 unfold Ar EL;rw[XC.2 (λy a=>by simpa using(yg.1 a).2)];rfl
def U8(x k M):Ar x (Gw x k M)=k:=by
 unfold Gw;split
 .rename_i h;rw[h];exact f9 x M
 exact fV x k M
def CA.aL{σ:Type}(K:CA σ)(n:Nat)(T:List F)(a a':σ):Prop:=if n=0 then K.aG T a a' else a'=a
def zo2{σ}(K:CA σ)(adr)(hK:K.Good adr 1)(nb ndb tb bb ng ct up hv ta fa tc fc ts fs T L B a w)(hq:NN w nb ng ct (Pn ndb) up hv ta ts.length tc tb bb)(hH:Ht hv K.fn K.r)(aK:At w ndb 4 (.slice fa fs.length fc))(aH:JM w fa fs)(hJ:DQ w ta ts)(hT:Ej w (.pointer (T[0]?.map adr)) (.pointer (T[1]?.map adr)) (.pointer (T[2]?.map adr)) T)(hl:ts.length<=1048576)(aR:fs.length<=1000)(hfit:∀f∈fs,∀t∈ts,t.fits T f)(hM:Ag w tb (uv L))(hB:Ag w bb (iv B))(htb2:tb≠bb)(hx:AK w (Ab adr T))(hn:Ab adr T ∉ L)(hI:K.I w a)(htb:¬K.S tb)(hbb:¬K.S bb)(hok:nBar ts fs T=0->K.ok T a) :
  Ca 320 #[Pn nb,AU (Ab adr T),I6 1] w λe w'=>e=.returned (.tuple #[])/\(∃a',K.aL (nBar ts fs T) T a a'/\K.I w' a')/\Ag w' tb (uv (FV (Ab adr T) 1 L))/\Ag w' bb (iv (Gw (Ab adr T) (nBar ts fs T:Int) B))/\CK w w'/\Av (λg=>g=tb∨g=bb∨K.S g) w w':=by
 obtain⟨HQ,aO,HJ,HT,aT,HM,aE,HX,HI⟩:=Ja hq aH hJ hT hfit hM hB hx hI;obtain⟨aG,aq,aP,aj⟩:=BE hok hK aK (λ(u:World)(hu:Bw w u)=>Xe nb 0 tb L (Ab adr T) 1 u (zab hu (AF (L:=[_,_,_,_,_,_,_,_]) hq (j:=5) rfl)) (hM.J hu) (hx.J hu) (.inl rfl) (λ_=>hn));clear hq aH hJ hT hfit hM hB hx hI hok hK aK;simp only[Ab,AU]at aj⊢;go_enter func320,ntmps320;go_upto_region 1 with fail;refine Bt ?_;intro w1 aC aD;obtain⟨t0,t1,t2⟩:=C7 aD rfl;have q1:=(aC.block nb (As HQ.o)).j HQ.o;have n0:=AF (L:=[_,_,_,_,_,_,_,_]) q1 (j:=0) rfl;have n1:=AF (L:=[_,_,_,_,_,_,_,_]) q1 (j:=1) rfl;have n2:=AF (L:=[_,_,_,_,_,_,_,_]) q1 (j:=2) rfl;have n3:=AF (L:=[_,_,_,_,_,_,_,_]) q1 (j:=3) rfl;have n6:=AF (L:=[_,_,_,_,_,_,_,_]) q1 (j:=6) rfl;have n7:=AF (L:=[_,_,_,_,_,_,_,_]) q1 (j:=7) rfl;have HW:=Aa aC;clear aC q1 aD
 go_region_held3 (λu=>At u w.heap.size 0 (.pointer (T[0]?.map adr))/\At u w.heap.size 1 (.pointer (T[1]?.map adr))/\At u w.heap.size 2 (.pointer (T[2]?.map adr))/\At u nb 0 ng/\At u nb 1 ct/\At u nb 2 (Pn ndb)/\At u nb 3 (.slice ta ts.length tc)/\At u nb 6 hv/\At u nb 7 (.map (some bb)))
  ((go_split_ands;first|done|(refine⟨?_,?_,?_,?_,?_,?_,?_,?_,?_⟩<;>first|assumption|with_reducible exact CK.cell am qj|exact zab Aj.drew qj))) (first|(go_at_call 322;refine(aj.o _ HW.o.drew).an λw2⟨aJ,ai⟩=>?_;have am:=ai.ck (HM.o.J HW.o.drew).aV)|fail)
 rename_i hh;have C2:CK w w2:=(CK.ab HW.o.drew).j am;have P2:=Aa ((Av.ab HW.o.drew:Av (λg=>g=tb∨g=bb∨K.S g) w w1.drew).j (Av.of ai (.inl rfl)));have I2:=Aa (aq.o.1 w w2 a HI.o C2 (λg hg hS=>(ai.block g (yh hg HW.o.drew.size) (λe'=>htb qz)).j (HW.o.drew.block g hg)) (yi HW.o.drew.size ai.rest.size));have M2:=Aa aJ;have B2:=Aa (((aE.o.J HW.o.drew)).aI ai htb2 (HM.o.J HW.o.drew).nc);have af:=Aa C2;obtain⟨v0,v1,v2,m0,m1,m2,m3,m6,m7⟩:=hh;clear aJ ai am C2 aj HI HM aE t0 t1 t2 n0 n1 n2 n3 n6 n7;have av:=Aa (λ(u:World)(hu:Bw w2 u)=>zjS ng ct (.pointer (T[0]?.map adr)) (.pointer (T[1]?.map adr)) (.pointer (T[2]?.map adr)) ndb ts ta tc T fs fa fc u ((af.o.j (CK.ab hu)).cell aP.o) (HJ.o.ck (af.o.j (CK.ab hu))) (HT.o.ck (af.o.j (CK.ab hu))) (λi f hf=>by
  obtain⟨b,o,pv,e,h1,h2⟩:=aO.o i f hf;exact⟨b,o,pv,e,(af.o.j (CK.ab hu)).cell h1,h2.ck (af.o.j (CK.ab hu))⟩) hl aR aT.o)
 have ar:=Aa (λ(u:World)(hu:Bw w2 u)(aS:At u nb 7 (.map (some bb)))=>RR nb bb B (Ab adr T) (nBar ts fs T:Int) u aS (B2.o.J hu) ((HX.o.ck af.o).J hu));simp only[Ab,AU]at ar;obtain⟨k,hk⟩:∃k,k=nBar ts fs T:=⟨_,rfl⟩
 obtain⟨fn,aB⟩:∃fn,fn=K.fn:=⟨_,rfl⟩
 obtain⟨r,hr⟩:∃r,r=K.r:=⟨_,rfl⟩
 rw[<-aB,<-hr]at hH;rw[<-hk]at av ar aG;obtain⟨au,aN,HR⟩:=AQ hk aB hr;clear hk aB hr;go_wp2_with fail
 go_region_held3 (λu=>At u w.heap.size 0 (.pointer (T[0]?.map adr))/\At u w.heap.size 1 (.pointer (T[1]?.map adr))/\At u w.heap.size 2 (.pointer (T[2]?.map adr))/\At u nb 0 ng/\At u nb 1 ct/\At u nb 2 (Pn ndb)/\At u nb 3 (.slice ta ts.length tc)/\At u nb 6 hv/\At u nb 7 (.map (some bb)))
  ((go_split_ands;first|done|(refine⟨?_,?_,?_,?_,?_,?_,?_,?_,?_⟩<;>first|assumption|with_reducible exact CK.cell ak qj|with_reducible exact zab az qj|exact zab Aj.drew qj))) (first|(go_at_call 323;refine(av.o _ Aj.drew).an λw3 az=>?_;have Y:=Aa ((Yw w2.heap.size w2).drew.j az))|(go_at_call 321;refine(ar.o w3 Y.o (zab Y.o m7)).an λw4⟨aF,ah⟩=>?_;have ak:=ah.ck (B2.o.J Y.o).aV)|fail)
 rename_i hh;have ay:CK w2 w4:=(CK.ab Y.o).j ak;obtain⟨aA,P4⟩:=Ak (af.o.j ay) ((P2.o.j (Av.ab Y.o)).j (Av.of ah (.inr (.inl rfl))));have aL:∀g,g<w2.heap.size->g≠bb->w4.heap[g]?=w2.heap[g]?:=λg hg hb=>(ah.block g (yh hg Y.o.size) (λe'=>hb (by injection e' with e';exact e'.ai))).j (Y.o.block g hg);have aI:w2.heap.size<=w4.heap.size:=yi Y.o.size ah.rest.size;have I4:=Aa (aq.o.1 w2 w4 a I2.o ay (λg hg hS=>aL g hg (λe'=>hbb (e'▸hS))) aI);have M4:Hid (Ag w4 tb (uv (FV (Ab adr T) 1 L))):=show Ag _ _ _ from(((M2.o.J Y.o)).aI ah (λe'=>htb2 e'.ai) (B2.o.J Y.o).nc);have B4:Hid (Ag w4 bb (iv (Gw (Ab adr T) (k:Int) B))):=show Ag _ _ _ from aF;have X4:=HX.o.ck aA.o;clear v0 v1 v2 m0 m1 m2 m3 m6 m7 az ak aF ah ay aL aI I2 P2 M2 B2 af av ar;obtain⟨v0,v1,v2,m0,m1,m2,m3,m6,m7⟩:=hh;have L4:=MM tys IH (LN w4.drew) (B4.o.J Aj.drew) (X4.J Aj.drew) false;rw[MA]at L4;simp only[if_false,YE]at L4;rw[U8]at L4;simp only[Ab,AU]at L4;have aQ:=Aa X4;clear X4;by_cases hz:k=0
 .have aM:((k:Int)==0)=true:=NA;go_wp2_with fail
  go_region;clear L4;go_wp2_with fail;have ax:Hid (∀u,Bw w4 u->Ca fn #[Pn r,.agg #[.pointer (T[0]?.map adr),.pointer (T[1]?.map adr),.pointer (T[2]?.map adr)],I6 1] u λe u'=>e=.returned (.tuple #[])/\∃a',K.aG T a a'/\K.I u' a'/\CK u u'/\Av K.S u u'):=show∀_,_ fromλu hu=>by
   rw[aN.o,HR.o];exact aq.o.2 u a T (aq.o.1 w4 u a I4.o (CK.ab hu) (λg hg _=>hu.block g hg) hu.size) (aG.o hz) (aQ.o.J hu)
  rcases hH with⟨rfl,rfl⟩|⟨rfl,rfl⟩|⟨rfl,rfl⟩
  focus
   have hm:=λu=>PV r u
   go_region_held3 (λu=>At u w.heap.size 0 (.pointer (T[0]?.map adr))∧At u w.heap.size 1 (.pointer (T[1]?.map adr))∧At u w.heap.size 2 (.pointer (T[2]?.map adr))∧At u nb 6 (.func (.method "loop.example/s01311/impl.take") #[.iface 337 (Pn r)] #[]))
    ((go_split_ands;first|done|(refine⟨?_,?_,?_,?_⟩<;>first|assumption|with_reducible exact CK.cell O qj|exact zab Aj.drew qj))) (first|(go_at_call 325;refine(ax.o _ Aj.drew.drew).an λw5⟨a',aw,hi5,O,ao⟩=>?_)|fail)
  rotate_left
  focus
   have hm:=λu=>PO r u
   go_region_held3 (λu=>At u w.heap.size 0 (.pointer (T[0]?.map adr))∧At u w.heap.size 1 (.pointer (T[1]?.map adr))∧At u w.heap.size 2 (.pointer (T[2]?.map adr))∧At u nb 6 (.func (.method "loop.example/s01311/impl.take") #[.iface 334 (Pn r)] #[]))
    ((go_split_ands;first|done|(refine⟨?_,?_,?_,?_⟩<;>first|assumption|with_reducible exact CK.cell O qj|exact zab Aj.drew qj))) (first|(go_at_call 320;refine(ax.o _ Aj.drew.drew).an λw5⟨a',aw,hi5,O,ao⟩=>?_)|fail)
  rotate_left
  focus
   go_region_held3 (λu=>At u w.heap.size 0 (.pointer (T[0]?.map adr))/\At u w.heap.size 1 (.pointer (T[1]?.map adr))/\At u w.heap.size 2 (.pointer (T[2]?.map adr))/\At u nb 6 (.func (.func 155) #[Pn r] #[]))
    ((go_split_ands;first|done|(refine⟨?_,?_,?_,?_⟩<;>first|assumption|with_reducible exact CK.cell O qj|exact zab Aj.drew qj))) (first|(go_at_call 155;refine(ax.o _ Aj.drew.drew).an λw5⟨a',aw,hi5,O,ao⟩=>?_)|fail)
  rotate_left
  all_goals
   go_wp2_with fail;refine bodyPost_end (results_none rfl _ _ _) rfl ⟨rfl,⟨a',by rw[<-au.o,CA.aL,if_pos hz];exact aw,hi5⟩,?_,?_,?_,?_⟩
   .exact(M4.o.J Aj.drew.drew).aM ao O htb
   .have hB:=(B4.o.J Aj.drew.drew).aM ao O hbb;rw[au.o]at hB;exact hB
   .exact aA.o.j ((CK.ab Aj.drew.drew).j O)
   exact(P4.o.j (Av.ab Aj.drew.drew)).j (ao.ac λg q=>.inr (.inr q))
 have aM:((k:Int)==0)=false:=NA;go_wp2_with fail
 go_region;go_wp2_with fail;refine bodyPost_end (results_none rfl _ _ _) rfl ⟨rfl,⟨a,by rw[<-au.o,CA.aL,if_neg hz],?_⟩,?_,?_,?_,?_⟩
 .exact aq.o.1 w4 _ a I4.o (CK.ab Aj.drew) (λg hg _=>(Yw w4.heap.size w4).drew.block g hg) (Yw w4.heap.size w4).drew.size
 .exact M4.o.J Aj.drew
 .rw[<-au.o];exact B4.o.J Aj.drew
 .exact aA.o.j (CK.ab Aj.drew)
 exact P4.o.j (Av.ab Aj.drew)
def wH{σ}(K:CA σ)(adr)(hK:K.Good adr (-1))(nb tb bb ng ct nd ts up hv T L B)(k:Nat)(a w)(hq:w.heap[nb]?=some (.cells #[ng,ct,nd,ts,up,.map (some tb),hv,.map (some bb)] 336 (0,0)))(hH:Ht hv K.fn K.r)(hM:Ag w tb (uv L))(hB:Ag w bb (iv B))(htb2:tb≠bb)(hx:AK w (Ab adr T))(hk:Ar (Ab adr T) B=(k:Int))(hI:K.I w a)(htb:¬K.S tb)(hbb:¬K.S bb)(hok:k=0->K.ok T a) :
  Ca 320 #[Pn nb,AU (Ab adr T),I6 (-1)] w λe w'=>e=.returned (.tuple #[])/\(∃a',K.aL k T a a'/\K.I w' a')/\Ag w' tb (uv (FV (Ab adr T) (-1) L))/\Ag w' bb (iv (Gw (Ab adr T) 0 B))/\CK w w'/\Av (λg=>g=tb∨g=bb∨K.S g) w w':=by
 obtain⟨HQ,HM,az,HX,HI,aF,ai,aj,aC⟩:=Ja hq hM hB hx hI hok hK (λ(u:World)(hu:Bw w u)=>Xe nb 0 tb L (Ab adr T) (-1) u (zab hu (AF (L:=[_,_,_,_,_,_,_,_]) hq (j:=5) rfl)) (hM.J hu) (hx.J hu) (.inr rfl) (λe=>qp)) hk;clear hq hM hB hx hI hok hK hk;simp only[Ab,AU]at aj⊢;go_enter func320,ntmps320;go_upto_region 1 with fail;refine Bt ?_;intro w1 ax ay;obtain⟨t0,t1,t2⟩:=C7 ay rfl;have q1:=(ax.block nb (As HQ.o)).j HQ.o;have n6:=AF (L:=[_,_,_,_,_,_,_,_]) q1 (j:=6) rfl;have n7:=AF (L:=[_,_,_,_,_,_,_,_]) q1 (j:=7) rfl;have HW:=Aa ax;clear ax q1 ay
 go_region_held3 (λu=>At u w.heap.size 0 (.pointer (T[0]?.map adr))/\At u w.heap.size 1 (.pointer (T[1]?.map adr))/\At u w.heap.size 2 (.pointer (T[2]?.map adr))/\At u nb 6 hv/\At u nb 7 (.map (some bb)))
  ((go_split_ands;first|done|(refine⟨?_,?_,?_,?_,?_⟩<;>first|assumption|with_reducible exact CK.cell ak qj|exact zab Aj.drew qj))) (first|(go_at_call 322;refine(aj.o _ HW.o.drew).an λw2⟨aB,ah⟩=>?_;have ak:=ah.ck (HM.o.J HW.o.drew).aV)|fail)
 rename_i hh;have C2:CK w w2:=(CK.ab HW.o.drew).j ak;obtain⟨P2,I2⟩:=Ak ((Av.ab HW.o.drew:Av (λg=>g=tb∨g=bb∨K.S g) w w1.drew).j (Av.of ah (.inl rfl))) (ai.o.1 w w2 a HI.o C2 (λg hg hS=>(ah.block g (yh hg HW.o.drew.size) (λe'=>htb qz)).j (HW.o.drew.block g hg)) (yi HW.o.drew.size ah.rest.size));have M2:Hid (Ag w2 tb (uv (FV (Ab adr T) (-1) L))):=show Ag _ _ _ from aB;obtain⟨B2,aA,am⟩:=AQ (((az.o.J HW.o.drew)).aI ah htb2 (HM.o.J HW.o.drew).nc) C2 (HX.o.ck C2);obtain⟨v0,v1,v2,m6,m7⟩:=hh;clear aB ah ak C2 aj HI HM az t0 t1 t2 n6 n7;have aq:=Aa (λ(u:World)(aK:At u nb 7 (.map (some bb)))(hB:Ag u bb (iv B))(hx:AK u (Ab adr T))=>RR nb bb B (Ab adr T) 0 u aK hB hx);simp only[Ab,AU]at aq;obtain⟨fn,aw⟩:∃fn,fn=K.fn:=⟨_,rfl⟩
 obtain⟨r,hr⟩:∃r,r=K.r:=⟨_,rfl⟩
 rw[<-aw,<-hr]at hH;obtain⟨aH,HR⟩:=Ak aw hr;clear aw hr;have L4:=MM tys IH (LN w2.drew) (B2.o.J Aj.drew) (am.o.J Aj.drew) false;rw[MA]at L4;simp only[if_false,YE]at L4;rw[aC.o]at L4;simp only[Ab,AU]at L4;by_cases hz:k=0
 .have aG:((k:Int)==0)=true:=NA;go_wp2_with fail
  go_region;clear L4;go_wp2_with fail;have au:Hid (∀u,Bw w2 u->Ca fn #[Pn r,.agg #[.pointer (T[0]?.map adr),.pointer (T[1]?.map adr),.pointer (T[2]?.map adr)],I6 (-1)] u λe u'=>e=.returned (.tuple #[])/\∃a',K.aG T a a'/\K.I u' a'/\CK u u'/\Av K.S u u'):=show∀_,_ fromλu hu=>by
   rw[aH.o,HR.o];exact ai.o.2 u a T (ai.o.1 w2 u a I2.o (CK.ab hu) (λg hg _=>hu.block g hg) hu.size) (aF.o hz) (am.o.J hu)
  rcases hH with⟨rfl,rfl⟩|⟨rfl,rfl⟩|⟨rfl,rfl⟩
  focus
   have hm:=λu=>PV r u
   go_region_held3 (λu=>At u w.heap.size 0 (.pointer (T[0]?.map adr))∧At u w.heap.size 1 (.pointer (T[1]?.map adr))∧At u w.heap.size 2 (.pointer (T[2]?.map adr))∧At u nb 6 (.func (.method "loop.example/s01311/impl.take") #[.iface 337 (Pn r)] #[]))
    ((go_split_ands;first|done|(refine⟨?_,?_,?_,?_⟩<;>first|assumption|with_reducible exact CK.cell O qj|exact zab Aj.drew qj))) (first|(go_at_call 325;refine(au.o _ Aj.drew.drew).an λw5⟨a',ao,hi5,O,af⟩=>?_)|fail)
  rotate_left
  focus
   have hm:=λu=>PO r u
   go_region_held3 (λu=>At u w.heap.size 0 (.pointer (T[0]?.map adr))∧At u w.heap.size 1 (.pointer (T[1]?.map adr))∧At u w.heap.size 2 (.pointer (T[2]?.map adr))∧At u nb 6 (.func (.method "loop.example/s01311/impl.take") #[.iface 334 (Pn r)] #[]))
    ((go_split_ands;first|done|(refine⟨?_,?_,?_,?_⟩<;>first|assumption|with_reducible exact CK.cell O qj|exact zab Aj.drew qj))) (first|(go_at_call 320;refine(au.o _ Aj.drew.drew).an λw5⟨a',ao,hi5,O,af⟩=>?_)|fail)
  rotate_left
  focus
   go_region_held3 (λu=>At u w.heap.size 0 (.pointer (T[0]?.map adr))/\At u w.heap.size 1 (.pointer (T[1]?.map adr))/\At u w.heap.size 2 (.pointer (T[2]?.map adr))/\At u nb 6 (.func (.func 155) #[Pn r] #[]))
    ((go_split_ands;first|done|(refine⟨?_,?_,?_,?_⟩<;>first|assumption|with_reducible exact CK.cell O qj|exact zab Aj.drew qj))) (first|(go_at_call 155;refine(au.o _ Aj.drew.drew).an λw5⟨a',ao,hi5,O,af⟩=>?_)|fail)
  rotate_left
  all_goals
   rename_i hh;obtain⟨u0,u1,u2,u6⟩:=hh;have C5:=(CK.ab (Yw w2.heap.size w2).drew.drew).j O;obtain⟨B5,M5⟩:=Ak ((B2.o.J Aj.drew.drew).aM af O hbb) ((M2.o.J Aj.drew.drew).aM af O htb);obtain⟨ar,aI,aJ,aE,aD⟩:=DU (aq.o w5 (C5.cell m7) B5.o (am.o.ck C5)) C5 af hi5 ao;clear v0 v1 v2 m6 m7 O af hi5 ao C5;go_wp2_with (first|(go_at_call 321;refine ar.o.an λw6⟨av,Y⟩=>?_)|fail);have C6:=Y.ck B5.o.aV;refine bodyPost_end (results_none rfl _ _ _) rfl ⟨rfl,⟨a',by rw[CA.aL,if_pos hz];exact aD.o,ai.o.1 w5 w6 a' aE.o C6 (λg hg hS=>Y.block g hg (λe'=>hbb qz)) Y.rest.size⟩,?_,av,aA.o.j (aI.o.j C6),?_⟩
   .exact M5.o.aI Y (λe'=>htb2 e'.ai) B5.o.nc
   exact((P2.o.j (Av.ab Aj.drew.drew)).j (aJ.o.ac λg q=>.inr (.inr q))).j (Av.of Y (.inr (.inl rfl)))
 have aG:((k:Int)==0)=false:=NA;go_wp2_with fail
 go_region;have B5:=Aa (B2.o.J (Yw w2.heap.size w2).drew);have ar:=Aa (aq.o w2.drew m7 B5.o (am.o.J (Yw w2.heap.size w2).drew));go_wp2_with (first|(go_at_call 321;refine ar.o.an λw6⟨av,Y⟩=>?_)|fail);have C6:=Y.ck B5.o.aV;refine bodyPost_end (results_none rfl _ _ _) rfl ⟨rfl,⟨a,by rw[CA.aL,if_neg hz],ai.o.1 w2.drew w6 a (ai.o.1 w2 _ a I2.o (CK.ab Aj.drew) (λg hg _=>(Yw w2.heap.size w2).drew.block g hg) (Yw w2.heap.size w2).drew.size) C6 (λg hg hS=>Y.block g hg (λe'=>hbb qz)) Y.rest.size⟩,?_,av,aA.o.j ((CK.ab (Yw w2.heap.size w2).drew).j C6),?_⟩
 .exact(M2.o.J Aj.drew).aI Y (λe'=>htb2 e'.ai) B5.o.nc
 exact(P2.o.j (Av.ab Aj.drew)).j (Av.of Y (.inr (.inl rfl)))
end
def kW{x y}(h:x≠y)(v M):Ar y (DL x v M)=Ar y M:=by
 unfold DL;split
 .unfold Ar
  induction M with
  |nil=>rfl
  |cons z r ih=>
   rename_i c;rw[yn];by_cases O:z.1=y
   .have Y:¬z.1=x:=λe=>h (e.ai.j O);rw[if_neg Y];simp[O]
   have h1:¬(if z.1=x then(x,v) else z).1=y:=by
    split
    .exact h
    exact O
   rw[Wv qt,Wv qA];by_cases a:x∈r.map Prod.fst
   .exact ih a
   have:r.map (λy=>if y.1=x then(x,v) else y)=r.map id:=Yn λq b=>by
    rw[if_neg (λe=>a (by rw[<-e];exact yT b))];rfl
   rw[this,KQ]
 unfold Ar;rw[List.find?_append];cases M.find? (λz=>decide (z.1=y)) with
 |some q=>rfl
 |none=>simp[h]
def kp{x y}(h:x≠y)(M):Ar y (EL x M)=Ar y M:=by
 unfold Ar EL;rw[List.find?_filter];congr 3
 funext z
 by_cases O:z.1=y
 .have:¬z.1=x:=λe=>h (e.ai.j O);simp[O];exactλe=>h e.ai
 simp[O]
def SU{x y}(h:x≠y)(k M):Ar y (Gw x k M)=Ar y M:=by
 unfold Gw;split
 .exact kp h M
 exact kW h k M
def Dl(adr:F->Addr)(s:Int):List (List F)->List (Kt × Int)->List (Kt × Int)
 |[],B=>B
 |T::r,B=>Dl adr s r (Gw (Ab adr T) (Ar (Ab adr T) B+s) B)
def VP(adr s T):∀(l:List (List F))(B:List (Kt × Int)),Dl adr s (l++[T]) B=Gw (Ab adr T) (Ar (Ab adr T) (Dl adr s l B)+s) (Dl adr s l B)
 |[],_=>rfl
 |_::r,_=>VP adr s T r _
def Oo(adr s x):∀(l:List (List F))(B:List (Kt × Int)),x ∉ l.map (Ab adr)->Ar x (Dl adr s l B)=Ar x B
 |[],_,_=>rfl
 |U::r,B,h=>by
  rw[yn,yO,not_or]at h
  exact(Oo adr s x r _ h.2).j (SU (K7 h.1) _ _)
def Xa(adr s T):∀(l:List (List F))(B:List (Kt × Int)),(l.map (Ab adr)).Nodup->T∈l->Ar (Ab adr T) (Dl adr s l B)=Ar (Ab adr T) B+s
 |U::r,B,hn,h=>by
  rw[yn,Yg]at hn
  by_cases e:Ab adr T=Ab adr U
  .rw[Dl,Oo adr s _ r _ (by rw[e];exact hn.1),e,U8]
  have a:T∈r:=by
   rcases yO.1 h with h|h
   .exact absurd (by rw[h]) e
   exact h
  rw[Dl,Xa adr s T r _ hn.2 a,SU (K7 e)]
end Go.Proofs.YtikojfajahnhgaaGreat
