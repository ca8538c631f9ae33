import Derived.Test.YtikojfajahnhgaaGreatKbc
set_option linter.all false
set_option maxHeartbeats 3200000
set_option maxRecDepth 100000
namespace Go.Proofs.YtikojfajahnhgaaGreat
attribute [local simp] At I6 Pn mzI
attribute [local go_sem] At I6 Pn
open Go.RowKit Go.Proofs.Tryz
attribute [local go_sem ↓] wp_at_zero wp_at_succ
def ziu(K g b base x0 x1 j l k kn m)(O:g<b)(i:b<base):∀(d:Nat),d<=8->∀(a:Option Addr)(c:Nat)(xs:List Ex)(w:World),DQ w g->QB w b base x0 x1 j l a c xs->I0 K w g b base k kn->base<=w.heap.size->xs.length+fD d<=100000 ->
  Ca 245 #[Pn g,Pn b,.slice k kn m,I6 (d:Int)] w (Ju K g b base x0 x1 j l a c xs d w):=by
 intro d
 induction d with
 |zero=>exactλhd a c xs w h n o hbase f=>kz K g b base x0 x1 j l k kn m O i 0 a c xs w hd h n o hbase f (λp e=>qd)
 |succ d ih=>exactλhd a c xs w h n o hbase f=>kz K g b base x0 x1 j l k kn m O i (d+1) a c xs w hd h n o hbase f (λp e=>by obtain rfl:d=p:=qd;exact ih qd)
def wM(c w b)(h:At w b 0 (.int .u8 c)):(convert 22 9 (.slice (some ⟨b,0,none⟩) 1 1)).run prog w=.ok (.string (strOfNums [c])) w:=
 run_convert_bytes_arg (P:=prog) _ 22 5 underlying22 underlying5 b 0 1 1 [c] rfl (λi a=>by
  obtain rfl:i=0:=qd
  simpa using h) 9 underlying9
def GG(k:Nat):ByteArray:=⟨#[UInt8.ofNat (48+k)]⟩
def uA(k:Nat)(a:k<10):strOfNums [48+((k:Int)%10)]++(⟨#[]⟩:ByteArray)=GG k:=by
 have:∀k:Fin 10,strOfNums [48+(((k.val:Nat):Int)%10)]++(⟨#[]⟩:ByteArray)=GG k.val:=qh;exact this ⟨k,a⟩
def xZ(k:Nat)(w)(f:k<10):Ca 193 #[I6 (k:Int)] w λe w'=>e=.returned (.string (GG k))/\Bw w w':=by
 have i:¬(k:Int)<0:=qd;have c:=Af wM;go_enter func193,ntmps193;go_wp2
 go_loopw [0,4,5] (λb a O wr=>(b=I6 (k:Int)/\a=.string ⟨#[]⟩/\O=.bool true/\wr=w)∨(b=I6 0/\a=.string (GG k)/\O=.bool false/\Bw w wr)) (λ_ _ O _=>match O with|.bool true=>1|_=>0)
 case atStart=>exact .inl ⟨rfl,rfl,rfl,rfl⟩
 case round=>
  rcases hrel with⟨rfl,rfl,rfl,rfl⟩|⟨rfl,rfl,rfl,d⟩
  .have g:=c.o;go_wp2;refine⟨.inr ⟨by rw[show(k:Int)/10=0 by omega],?_,rfl,Aj⟩,qe⟩;exact congrArg Value.string (uA k f)
  go_wp2;go_ret;exact⟨rfl,d⟩
def vm:(prog.info? 3).map (λi=>(i.zero,i.size,i.bytes))=some (some (I6 0),1,8):=qg
def Rn:List Int:=[1,2,1,2,3,0]
def tq(k)(a:k<6):∃n:Nat,n<=3/\Rn[k]?=some (n:Int):=by
 have:k=0∨k=1∨k=2∨k=3∨k=4∨k=5:=qd;rcases this with rfl|rfl|rfl|rfl|rfl|rfl
 .exact⟨1,qd,rfl⟩
 .exact⟨2,qd,rfl⟩
 .exact⟨1,qd,rfl⟩
 .exact⟨2,qd,rfl⟩
 .exact⟨3,qd,rfl⟩
 exact⟨0,qd,rfl⟩
def nN(K m g b base x0 x1 E v I kn kc)(aX:g<b)(T:b<base)(a c xs w)(h:DQ w g)(J:QB w b base x0 x1 E v a c xs)(f:I0 K w g b base I kn)(hbase:base<=w.heap.size)(aO:xs.length<=7*m)(aV:xs.length<=50+m)(hm:m<=100) :
  Ca 196 #[.pointer (some ⟨g,0,none⟩),.pointer (some ⟨b,0,none⟩),.slice I kn kc] w λe w'=>∃q p O n l d ys,e=.returned (.slice q O.length p)/\w'.ownsRow w.heap.size 3 1 (.slice q O.length p) O.length ((O:List Int).map (Value.int .i64))/\QB w' b base x0 x1 E v n l d/\(d=xs++ys/\Cj K xs.length ys O/\O.length<=3/\d.length<=7*(m+O.length)/\d.length<=50+(m+O.length))/\Qs g b (Value.slice a xs.length c).ownBlock w w'/\Fs w.heap.size (Value.slice a xs.length c).ownBlock (Value.slice n d.length l).ownBlock:=by
 obtain⟨H,HQ,HK⟩:=AA h J f;have aY:=h.lt;have a7:b<w.heap.size:=Ak J.1;clear h J f;have A:=Er w;have HR:=Af (λo=>H.o.C (A.o o));go_enter func196,ntmps196;go_wp2_with fail;refine(Fc g _ (HR.o _)).j ?_;rintro e w1 ⟨u,hu,rfl,G⟩;have Y:=Af (Dd G (heap_alloc_new _ _) qd);have aa:w.heap.size<w1.heap.size:=Ak Y.o;obtain⟨k,aR⟩:∃k,k=u%6:=⟨_,rfl⟩
 have aZ:k<6:=qd;have aL:(u:Int)%6=(k:Int):=qd;have a5:(k:Int)<6:=qd;have a9:(0:Int)<=(k:Int):=qd;obtain⟨Z,a0,W⟩:=tq k aZ;have ax:w1.cell? ⟨w.heap.size,k,none⟩=some (.int .i64 (Z:Int)):=by
  have hb:=Y.o;have:k=0∨k=1∨k=2∨k=3∨k=4∨k=5:=qd;rcases this with rfl|rfl|rfl|rfl|rfl|rfl<;>simp[Rn]at W<;>simp[World.cell?,hb,<-W]
 obtain⟨aG,am⟩:=Ah ((HQ.o.C (A.o _)).rs G qd qd) (Qs.of (b:=b) (o:=(Value.slice a xs.length c).ownBlock) ((Rs.of H.o (A.o _)).c G));clear G aR W Y A HR H;go_wp2_with fail;clear ax aL
 go_loopw [7,8] (λov L wr=>∃(j:Nat)(q:Option Addr)(p:Nat)(O:List Int)(n:Option Addr)(l:Nat)(d ys:List Ex),L=.int .i64 (j:Int)/\ov=.slice q O.length p/\O.length+j=Z/\wr.ownsRow w.heap.size 3 1 (.slice q O.length p) O.length (O.map (Value.int .i64))/\QB wr b base x0 x1 E v n l d/\(d=xs++ys/\Cj K xs.length ys O/\d.length<=7*(m+O.length)/\d.length<=50+(m+O.length))/\Qs g b (Value.slice a xs.length c).ownBlock w wr/\Fs w.heap.size (Value.slice a xs.length c).ownBlock (Value.slice n d.length l).ownBlock) (λ_ L _=>(intOf L).toNat)
 case atStart=>exact⟨Z,none,0,[],a,c,xs,[],rfl,rfl,qe,yN _ _ _ _,aG.o,⟨qe,rfl,by simpa using aO,by simpa using aV⟩,am.o,Fs.refl _ _⟩
 case round=>
  obtain⟨j,q,p,O,n,l,d,ys,rfl,rfl,hj,i,z,⟨r,y,aT,aU⟩,s,U⟩:=hrel;have au:=Af (And.intro r y);clear r y;by_cases aQ:j=0
  .subst aQ;go_wp2_with fail;go_ret;exact⟨q,p,O,n,l,d,ys,rfl,i,z,⟨au.o.1,au.o.2,qd,aT,aU⟩,s,U⟩
  have a8:(0:Int)<(j:Int):=qd;have ab:=s.rest.size;have aK:fD 2=7:=rfl;obtain⟨HC,HO,aE,aq,R⟩:=DE (ziu K g b base x0 x1 E v I kn kc aX T 2 qd n l d wr s.bc z (HK.o.qs s (λk f=>(HQ.o.2.1.lt k f).1)) qd (by rw[aK];omega)) i z s U;clear i z s U aG am;go_wp2_with fail;refine HC.o.j ?_;rintro e w2 ⟨a2,c2,D,aH,a6,aS,rfl,x,aA,aJ,bc⟩;rw[aK]at aS;have aN:=Af aJ;clear aJ;obtain⟨aW,N,aC,aM⟩:=Bn aH (UO (t:=225) HO.o x qd qd (λk f=>AO aE.o.2.1 f) qh) (aq.o.c x R.o) (R.o.c aA qd);have a4:=x.rest.size;have ay:=Er w2;have aI:=Af (λo=>Bv N.o (λk f=>(ay.o o).block k (N.o.lt k f).2));clear aH x aA HC HO aE aq R;go_wp2_with (first|(at_builtin;refine CN qi (.tmp 19) (.tmp 24) 30 qi w.heap.size 3 _ 1 8 underlying30 vm qi qd _ O.length _ qi (aI.o _) (some ⟨_,0,none⟩) 1 1 qi [.int .i64 ((D.length:Int)-1)] qi (λe=>qo) (Cv _ _ _ _ qe) qL qj qd qf ?_;intro a3 c3 w3 aP aF bd)|fail);go_roundw
  case rel=>
   obtain⟨M,aD,aB⟩:=aN.o;obtain⟨r,y⟩:=au.o;refine⟨j-1,a3,c3,O++[(D.length:Int)-1],a2,c2,D,ys++M,?_,qe,qf,by simpa using aP.o,(aW.o.C (ay.o _)).grown (t:=3) aF.o (λk f=>AO (aI.o _) f) qh qh,⟨by rw[aD,r,yW],?_,qf,qf⟩,(aC.o.C (ay.o _)).grown aF.o (λk f=>(N.o.lt k f).1) aY,aM.o⟩
   .exact Nh
   .have:=Cj.snoc y (B:=M) (by rw[r]at aB;simpa using aB);have e:D.length=xs.length+ys.length+M.length:=by rw[aD,r];simp[WT]
    rw[e];exact this
  case measure=>(simp[intOf];omega)
end Go.Proofs.YtikojfajahnhgaaGreat
