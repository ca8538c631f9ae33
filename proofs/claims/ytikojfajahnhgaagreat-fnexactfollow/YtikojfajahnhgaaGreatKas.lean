import Derived.Test.YtikojfajahnhgaaGreatKac
import Derived.Test.YtikojfajahnhgaaGreatKad
import Derived.Test.YtikojfajahnhgaaGreatProg
set_option linter.all false
set_option maxHeartbeats 1600000
set_option maxRecDepth 100000
namespace Go.Proofs.YtikojfajahnhgaaGreat
attribute [local simp] At I6 Pn mzI
attribute [local go_sem] At I6 Pn
open Go.RowKit Go.Proofs.Tryz
variable{P:Prop}
def zkQ(a c vs left w)(hv:Bj w a vs)(hl:vs.length<=maxLen)(f:∀v∈vs,v.av.size<=maxLen)(q:0<=left)(s:left<=1048576) :
  Ca 129 #[.slice a vs.length c,I6 left] w λe w'=>
   (∃r:Int,e=.returned (I6 r)/\Left r left (Ik vs))/\Bw w w':=by
 unfold maxLen at hl;by_cases j:left<vs.length
 .go_enter func129,ntmps129;exact Ng
 go_enter func129,ntmps129;go_wp2
 go_loopw [1,5] (λl i wr=>∃(k:Nat)(r:Int),k<=vs.length/\i=I6 k/\l=I6 r/\0<=r/\r+vs.length+((vs.take k).map IZ).sum<=left/\Bw w wr) (λ_ i _=>vs.length-(intOf i).toNat)
 case atStart=>exact⟨0,_,qd,rfl,rfl,qd,qe,Aj⟩
 case round=>
  obtain⟨k,r,t,rfl,rfl,aj,Y,hb⟩:=hrel;by_cases g:k<vs.length
  .obtain⟨v,O⟩:=AJ g;obtain⟨b,o,rfl,n,u,p⟩:=hv.J hb k v O;have d:=Ma IZ vs k v O;have HZ:Hid (((vs.take (k+1)).map IZ).sum=((vs.take k).map IZ).sum+IZ v):=d;have m:v.av.size<=maxLen:=f v (yd O);clear d;go_wp2_with (go_at_call 183;refine(VX v _ _ m qd qd).ac ?_;rintro e w' ⟨⟨r',rfl,ah⟩,hb'⟩)
   .exact Nf
   exact X3
  go_wp2;go_ret;refine⟨⟨r,rfl,.inr ⟨aj,?_⟩⟩,hb⟩;rw[yu qd]at Y;unfold Ik;omega
def Oe:(prog.info? 145).map (λi=>(i.zero,i.size,i.bytes))=some (some (.agg #[I6 0,.string ByteArray.empty,.slice none 0 0]),3,48):=qf
def zlw(a c vs w)(hv:Bj w a vs)(hl:vs.length<=1048576) :
  Ca 133 #[.slice a vs.length c] w λe w'=>
   (e=.returned (.slice (some ⟨w.heap.size,0,none⟩) vs.length vs.length)/\AX w' w.heap.size 187 3 vs.length (vs.map V.cells))/\Bw w w':=by
 have l:=M7 (P:=prog) 38 187 _ 3 32 underlying38 TU vs.length qd qd;go_enter func133,ntmps133;go_wp2;clear l
 go_loopw [4] (λi wr=>∃(k:Nat),k<=vs.length/\i=I6 k/\AX wr w.heap.size 187 3 vs.length ((vs.take k).map V.cells)/\Bw w wr) (mz vs.length)
 case atStart=>exact⟨0,qd,rfl,AX.made _ _ _ _ _,Af⟩
 case round=>
  obtain⟨k,x,rfl,f,g⟩:=hrel;by_cases O:k<vs.length
  .obtain⟨v,Y⟩:=AJ O;obtain⟨b,o,rfl,t,y,z⟩:=hv.J g k v Y;go_wp2_with (go_at_call 187;refine(VT v _).an λw' d=>?_;have j:=f.J d f.lt;obtain⟨⟨x0,m⟩,⟨x1,q⟩,⟨p,s⟩,r,n,u⟩:=j.ef O);go_roundw
   case rel=>
    refine⟨k+1,qd,ql,?_,(((g.aj d).setCell qn _).setCell qn _).setCell qn _⟩;rw[mD V.cells vs k v Y];exact j.di qg O _ _ _
   case measure=>(simp;omega)
  go_wp2;go_ret;rw[yu qd]at f;exact⟨⟨rfl,f⟩,g⟩
structure JL(w:World) (g:Nat) (N:Nat) (fs:List F) (gs:List Nat):Prop where
 len:gs.length=fs.length
 own:AX w g 145 3 N ((fs.zip gs).map λp=>A_ p.1 (.slice (some ⟨p.2,0,none⟩) p.1.ad.length p.1.ad.length))
 each:∀(i:Nat)(f:F)(h:Nat),fs[i]?=some f->gs[i]?=some h->AX w h 187 3 f.ad.length (f.ad.map V.cells)
 gt:∀h∈gs,g<h
 nodup:gs.Nodup
def JL.at{w g N fs gs}(h:JL w g N fs gs):BC w (some ⟨g,0,none⟩) fs:=by
 intro i f hf;obtain⟨hi,rfl⟩:=yf.1 hf;have hg:gs[i]?=some (gs[i]'(by rw[h.len];exact hi)):=yK _;have O:((fs.zip gs).map λp=>A_ p.1 (.slice (some ⟨p.2,0,none⟩) p.1.ad.length p.1.ad.length))[i]?=some (A_ fs[i] (.slice (some ⟨gs[i]'(by rw[h.len];exact hi),0,none⟩) fs[i].ad.length fs[i].ad.length)):=by
  exact nh
 refine⟨g,0,rfl,?_,?_,some ⟨gs[i]'(by rw[h.len];exact hi),0,none⟩,fs[i].ad.length,?_,Bj.own (h.each i _ _ hf hg)⟩
 .simpa using h.own.cell O (j:=0) rfl
 .simpa using h.own.cell O (j:=1) rfl
 simpa using h.own.cell O (j:=2) rfl
def JL.lt{w g N fs gs}(h:JL w g N fs gs):g<w.heap.size/\∀x∈gs,x<w.heap.size:=by
 exact oZ
def JL.J{w w' g N B fs gs}(h:JL w g N fs gs)(hb:Below B w w')(a:w.heap.size<=B):JL w' g N fs gs:=by
 exact nN
def JL.step{w w' g N k h fs gs f}(H:JL w g N fs gs)(hb:Bw w w')(ho:AX w' h 187 3 f.ad.length (f.ad.map V.cells))(j:w.heap.size<=h)(c:fs.length=k)(e:k<N) :
  JL (((w'.setCell ⟨g,k*3,none⟩ (I6 f.tag)).setCell ⟨g,k*3+1,none⟩ (.string f.ak)).setCell ⟨g,k*3+2,none⟩ (.slice (some ⟨h,0,none⟩) f.ad.length f.ad.length)) g N (fs++[f]) (gs++[h]):=by
 have hl:=H.lt;have H':=H.J hb AA;have d:gs.length=k:=by rw[H.len,c]
 refine⟨by simp[H.len],?_,?_,?_,?_⟩
 .have:=H'.own.di (k:=k) (by simp[H.len,c]) e (I6 f.tag) (.string f.ak) (.slice (some ⟨h,0,none⟩) f.ad.length f.ad.length);rw[KX (by rw[H.len]),yJ];exact this
 .intro i f' x hf hx;have O:x≠g:=by
   exact nu
  have key:AX w' x 187 3 f'.ad.length (f'.ad.map V.cells):=by
   exact oP
  exact((key.aB O _).aB O _).aB O _
 .exact mx
 exact nZ
section
attribute [local go_sem ↓] wp_at_zero wp_at_succ
def zjr(a d c m vs w)(hv:Bj w a vs)(Y:Bj w d vs)(hl:vs.length<=1048576) :
  Ca 138 #[.slice a vs.length c,.slice d vs.length m] w λe w'=>
   e=.returned (.bool true)/\Bw w w':=by
 go_enter func138,ntmps138;go_wp2
 go_loopw [5] (λi wr=>∃(k:Nat),k<=vs.length/\i=I6 k/\Bw w wr) (mz vs.length)
 case atStart=>exact⟨0,qd,rfl,Aj⟩
 case round=>
  obtain⟨k,s,rfl,hb⟩:=hrel;by_cases g:k<vs.length
  .obtain⟨v,O⟩:=AJ g;obtain⟨b,o,rfl,l,u,z⟩:=hv.J hb k v O;obtain⟨y,o',rfl,f,q,t⟩:=Y.J hb k v O;have x:(0:Int)<=(k:Int):=qd;have r:(k:Int)<(vs.length:Int):=qd;go_wp2;have n:=ES l;have p:=ES f
   go_region_held3 (Kc wr) ((first | exact Kc.dr | exact Kc.dr.nx hb' qe))
    (first|(go_at_call 192;refine(Xf v _).an λw' hb'=>?_))
   exact Mf
  exact J4
def mg(h:P:=by go_wp2;go_ret;exact⟨AE (by rw[G.o,decide_eq_false (by omega)];rfl),Aj⟩):=h
def pT(h:P:=by
 obtain⟨G⟩:Nonempty (Hid (C4 vs=(decide (vs.length<=6)&&vs.all Bu))):=⟨rfl⟩
 by_cases h6:6<vs.length
 .have ai:(6:Int)<(vs.length:Int):=by omega
  first
   | (have _:=tP
      go_enter func117,ntmps117)
   |(go_enter func214,ntmps214)
  exact mg
 .have ai:¬(6:Int)<(vs.length:Int):=by omega
  first
   | (have _:=tP
      go_enter func117,ntmps117)
   |(go_enter func214,ntmps214)
  go_wp2
  go_loopw [10] (λi wr=>∃(k:Nat),k<=vs.length/\i=I6 k/\C4 vs=(vs.drop k).all Bu/\Bw w wr) (mz vs.length)
  case atStart=>exact⟨0,by omega,rfl,by rw[G.o,decide_eq_true (by omega)];rfl,Aj⟩
  case round=>
   obtain⟨k,hk,rfl,hG,hb⟩:=hrel;have HG:Hid (C4 vs=(vs.drop k).all Bu):=hG;clear hG;by_cases ah:k<vs.length
   .obtain⟨v,O⟩:=AJ ah;obtain⟨b,o,rfl,c0,c1,c2⟩:=hv.J hb k v O;have Y:v.av.size<=maxLen:=hs v (yd O);have HD:Hid (vs.drop k=v::vs.drop (k+1)):=by
     obtain⟨h,rfl⟩:=yf.1 O;exact WE h
    cases af:Bu v
    first
     | (have _:=tP
        all_goals
          go_wp2_with (go_at_call 176;refine(S0 v _ Y).an λw' hb'=>?_))
     |(all_goals
          go_wp2_with (go_at_call 256;refine(ST v _ Y).an λw' hb'=>?_))
    .go_ret;exact⟨AE (by rw[HG.o,HD.o,Y3,af];rfl),hb.j ((Af.aj hb').ac hb.size)⟩
    go_roundw
    case rel=>exact⟨k+1,by omega,by go_num,by rw[HG.o,HD.o,Y3,af];rfl,hb.j ((Af.aj hb').ac hb.size)⟩
    case measure=>(simp;omega)
   exact Qv
 ):=h
def OS(a c vs w)(hv:Bj w a vs)(hl:vs.length<=1048576)(hs:∀v∈vs,v.av.size<=maxLen) :
  Ca 117 #[.slice a vs.length c] w λe w'=>
   e=.returned (.bool (C4 vs))/\Bw w w':=by
 have tP:=trivial;exact pT
end
def AV(f:F):Prop:=f.ak.size<=maxLen/\f.ad.length<=1048576/\∀v∈f.ad,v.av.size<=maxLen
def pU(h:P:=by
 obtain⟨G⟩:Nonempty (Hid (DC fs=(decide (fs.length<=40)&&BO 0 fs))):=⟨rfl⟩
 by_cases h6:40<fs.length
 .have ak:(40:Int)<(fs.length:Int):=by omega
  first
   | (have _:=tP
      go_enter func124,ntmps124)
   |(go_enter func107,ntmps107)
  exact mg
 .have ak:¬(40:Int)<(fs.length:Int):=by omega
  first
   | (have _:=tP
      go_enter func124,ntmps124)
   |(go_enter func107,ntmps107)
  go_wp2
  first
   | (have _:=tP
      go_loopw [3,11] (λl i wr=>∃(k:Nat)(last:Int),k<=fs.length/\i=I6 k/\l=I6 last/\DC fs=BO last (fs.drop k)/\Bw w wr) (λ_ i _=>fs.length-(intOf i).toNat)
      case atStart=>exact⟨0,0,by omega,rfl,rfl,by rw[G.o,decide_eq_true (by omega)];rfl,Aj⟩)
   | (go_loopw [3,11] (λl i wr=>∃ (k:Nat) (last:Int),0<=last/\k<=fs.length/\i=I6 k/\l=I6 last/\DC fs=BO last (fs.drop k)/\Bw w wr) (λ_ i _=>fs.length - (intOf i).toNat)
      case atStart=>exact⟨0,0,by omega,by omega,rfl,rfl,by rw[G.o,decide_eq_true (by omega)];rfl,Aj⟩)
  case round=>
   first
    | (have _:=tP
       obtain⟨k,last,hk,rfl,rfl,hG,hb⟩:=hrel)
    |(obtain⟨k,last,am,hk,rfl,rfl,hG,hb⟩:=hrel)
   have HG:Hid (DC fs=BO last (fs.drop k)):=hG;clear hG;by_cases aj:k<fs.length
   .obtain⟨f,ai⟩:=AJ aj;obtain⟨b,o,rfl,c0,c1,s,cs,c2,hsl⟩:=hv.J hb k f ai;obtain⟨hs1,ah,af⟩:=hs f (yd ai);have HD:Hid (fs.drop k=f::fs.drop (k+1)):=Ck ai;have HO:Hid (Hj last f=(decide (last<f.tag)&&(decide (f.tag<=1000000)&&(Aw f.ak.data.toList&&C4 f.ad)))):=rfl;have Y:Hid (Hj last f=false->DC fs=false):=λe=>by rw[HG.o,HD.o,BO,e];rfl
    have good:Hid (Hj last f=true->DC fs=BO f.tag (fs.drop (k+1))):=λe=>by rw[HG.o,HD.o,BO,e];rfl
    by_cases h1:f.tag<=last
    .have O:Hid (DC fs=false):=Y.o (by rw[HO.o,decide_eq_false (by omega)];rfl);go_wp2;go_ret;exact⟨AE O.o.ai,hb.aj Af⟩
    first
     | (have _:=tP
        by_cases h2:1000000<f.tag)
     |(cases h3:Pe f)
    .first
      | (have _:=tP
         have O:Hid (DC fs=false):=Y.o (by rw[HO.o,decide_eq_false (p:=f.tag<=1000000) (by omega)];simp);go_wp2)
      | (have O:Hid (DC fs=false):=Y.o (by rw[HO.o,lE (by omega:1<=f.tag) h3,Wz])
         go_wp2_with (go_at_call 170;refine(lu f s cs _ (hsl.J Af) hs1 ah af).an λw1 hb'=>?_))
     go_ret
     first
      | (have _:=tP
         exact⟨AE O.o.ai,hb.aj Af⟩)
      |(exact⟨AE O.o.ai,hb.j ((Af.aj hb').ac hb.size)⟩)
    first
     | (have _:=tP
        cases h3:Aw f.ak.data.toList
        · have O:Hid (DC fs=false):=Y.o (by rw[HO.o,h3];simp)
          go_wp2_with (go_at_call 116;refine(Hg f.ak _ hs1).ac ?_;rintro e w' ⟨rfl,rfl⟩);go_ret;exact⟨AE O.o.ai,hb.aj Af⟩
        · cases h4:C4 f.ad
          · have O:Hid (DC fs=false):=Y.o (by rw[HO.o,h4];simp)
            go_wp2_with (first|(go_at_call 116;refine(Hg f.ak _ hs1).ac ?_;rintro e w' ⟨rfl,rfl⟩)|(go_at_call 117;refine(OS s cs f.ad _ (hsl.J Af) ah af).an λw1 hb'=>?_));go_ret;exact⟨AE O.o.ai,hb.j ((Af.aj hb').ac hb.size)⟩
          · have O:Hid (DC fs=BO f.tag (fs.drop (k+1))):=good.o (by rw[HO.o,h3,h4,decide_eq_true (by omega),decide_eq_true (by omega)];rfl)
            go_wp2_with (first|(go_at_call 116;refine(Hg f.ak _ hs1).ac ?_;rintro e w' ⟨rfl,rfl⟩)|(go_at_call 117;refine(OS s cs f.ad _ (hsl.J Af) ah af).an λw1 hb'=>?_;obtain⟨hc,hf⟩:=Ah hb'));go_roundw
            case rel=>exact⟨k+1,f.tag,by omega,by go_num,rfl,O.o,hb.j ((Af.aj hb').ac hb.size)⟩
            case measure=>simp[intOf];omega)
     | (have O:Hid (DC fs=BO f.tag (fs.drop (k+1))):=good.o (by rw[HO.o,lE (by omega:1<=f.tag) h3,decide_eq_true (by omega)];rfl)
        go_wp2_with (go_at_call 170;refine(lu f s cs _ (hsl.J Af) hs1 ah af).an λw1 hb'=>?_;obtain⟨hc,hf⟩:=Ah hb');go_roundw
        case rel=>exact⟨k+1,f.tag,by omega,by omega,by go_num,rfl,O.o,hb.j ((Af.aj hb').ac hb.size)⟩
        case measure=>simp[intOf];omega)
   exact Qv
 ):=h
def mO(a c fs w)(hv:BC w a fs)(hl:fs.length<=1048576)(hs:∀f∈fs,AV f) :
  Ca 124 #[.slice a fs.length c] w λe w'=>
   e=.returned (.bool (DC fs))/\Bw w w':=by
 have tP:=trivial;exact pU
def Qg(a c vs w)(hv:Bj w a vs)(hl:vs.length<=1048576)(hs:∀v∈vs,v.av.size<=maxLen) :
  Ca 214 #[.slice a vs.length c] w λe w'=>
   e=.returned (.bool (C4 vs))/\Bw w w':=by
 exact pT
def lu(f a c w)(hv:Bj w a f.ad)(n:f.ak.size<=maxLen)(hl:f.ad.length<=1048576)(m:∀v∈f.ad,v.av.size<=maxLen) :
  Ca 170 #[.agg #[I6 f.tag,.string f.ak,.slice a f.ad.length c]] w λe w'=>
   e=.returned (.bool (Pe f))/\Bw w w':=by
 obtain⟨G⟩:Nonempty (Hid (Pe f=(decide (1<=f.tag)&&(decide (f.tag<=1000000)&&(Aw f.ak.data.toList&&C4 f.ad))))):=⟨rfl⟩
 by_cases k:1<=f.tag
 .by_cases j:f.tag<=1000000
  .have b:decide (1<=f.tag)=true:=decide_eq_true k;have d:decide (f.tag<=1000000)=true:=decide_eq_true j;cases i:Aw f.ak.data.toList<;>cases l:C4 f.ad
   all_goals
    go_enter func170,ntmps170;go_wp2_with (first|(go_at_call 197;refine(IX f.ak _ n).ac ?_;rintro e w' ⟨rfl,rfl⟩)|(go_at_call 214;refine(Qg a c f.ad _ (hv.J Af) hl m).an λw' g=>?_));go_ret
    first
    |exact⟨AE (by rw[G.o,b,d,i,l];rfl),Af⟩
    |exact⟨AE (by rw[G.o,b,d,i,l];rfl),Af.aj g⟩
  have d:decide (f.tag<=1000000)=false:=decide_eq_false j;go_enter func170,ntmps170;go_wp2;go_ret;exact⟨AE (by rw[G.o,d];simp),Af⟩
 have b:decide (1<=f.tag)=false:=decide_eq_false k;go_enter func170,ntmps170;go_wp2;go_ret;exact⟨AE (by rw[G.o,b];rfl),Af⟩
def mG(a c fs w)(hv:BC w a fs)(hl:fs.length<=1048576)(hs:∀f∈fs,AV f) :
  Ca 107 #[.slice a fs.length c] w λe w'=>
   e=.returned (.bool (DC fs))/\Bw w w':=by
 exact pU
section
attribute [local go_sem ↓] wp_at_zero wp_at_succ
def SW(a q c A vs d w)(hv:Bj w a vs)(z:Bj w q d)(hl:vs.length<=1048576) :
  Ca 175 #[.slice a vs.length c,.slice q d.length A] w λe w'=>
   e=.returned (.bool (decide (vs=d)))/\Below w.heap.size w w':=by
 by_cases O:vs.length=d.length
 .have y:((vs.length:Int) != (d.length:Int))=false:=by simp;omega
  have N:Hid (vs.length=d.length):=O;have B:vs.length<=d.length:=qd;have M:d.length<=vs.length:=qd;clear O;go_enter func175,ntmps175;go_wp2
  go_loopw [13] (λi wr=>∃(k:Nat),k<=vs.length/\i=.int .i64 k/\decide (vs=d)=decide (vs.drop k=d.drop k)/\Below w.heap.size w wr) (λi _=>vs.length-(intOf i).toNat)
  case atStart=>exact⟨0,qd,rfl,rfl,Yw _ _⟩
  case round=>
   obtain⟨k,E,rfl,t,f⟩:=hrel;have j:Hid (decide (vs=d)=decide (vs.drop k=d.drop k)):=t;clear t;by_cases x:k<vs.length
   .obtain⟨v,l⟩:∃v,vs[k]?=some v:=⟨vs[k],by simp[x]⟩
    obtain⟨u,Y⟩:∃u,d[k]?=some u:=⟨d[k]'(by omega),qe⟩
    obtain⟨b,o,rfl,L,H,T⟩:=hv.J f k v l;obtain⟨g,o',rfl,I,C,G⟩:=z.J f k u Y;have r:Hid (vs.drop k=v::vs.drop (k+1)):=Ck l;have n:Hid (d.drop k=u::d.drop (k+1)):=Ck Y;have R:(0:Int)<=(k:Int):=qd;have K:(k:Int)<(vs.length:Int):=qd;have D:(k:Int)<(d.length:Int):=qd;cases s:(v.kind==u.kind)<;>cases m:(v.num==u.num)<;>cases p:(v.av.toList==u.av.toList)
    all_goals
     go_wp2
     go_region_held3 (λw'=>w'.cell? ⟨b,o+k*3,none⟩=some (.int .i64 v.kind)/\w'.cell? ⟨b,o+k*3+1,none⟩=some (.int .i64 v.num)/\w'.cell? ⟨b,o+k*3+2,none⟩=some (.string v.av)/\w'.cell? ⟨g,o'+k*3,none⟩=some (.int .i64 u.kind)/\w'.cell? ⟨g,o'+k*3+1,none⟩=some (.int .i64 u.num)/\w'.cell? ⟨g,o'+k*3+2,none⟩=some (.string u.av)) (go_keep) (fail)
     go_wp2
    all_goals
     first
     | (go_roundw
        case rel=>exact⟨k+1,qd,ql,by rw[j.o,r.o,n.o,se (veq s m p)],f.drew⟩
        case measure=>simp[intOf];omega)
     | (go_ret
        exact⟨AE (by rw[j.o,r.o,n.o,ti (by rintro rfl;simp at s m p)]),f.drew⟩)
   go_wp2;go_ret;exact⟨AE (by rw[j.o,yD qd,yD qd];rfl),f⟩
 have y:((vs.length:Int) != (d.length:Int))=true:=by simp;omega
 go_enter func175,ntmps175;go_wp2;go_ret;exact⟨AE (by rw[decide_eq_false (λe=>O H4)]),Yw _ _⟩
end
def k8(fs nx cp):FU fs nx cp=false ->
  (cp<0)∨(0<=cp/\40<cp)∨(0<=cp/\cp<=40/\cp<fs.length)∨(0<=cp/\cp<=40/\(fs.length:Int)<=cp/\DC fs=false)∨(0<=cp/\cp<=40/\(fs.length:Int)<=cp/\DC fs=true/\nx<1)∨(0<=cp/\cp<=40/\(fs.length:Int)<=cp/\DC fs=true/\1<=nx/\1000001<nx):=by
 intro h;unfold FU at h;cases a:DC fs
 .simp only[a,WX,Wz]at h;simp only[YE,false_and,and_false,or_false,and_true];omega
 simp only[a,YP,WV,decide_eq_false_iff_not]at h;simp only[true_and];omega
def zhI(a c fs nx cp sg w)(hv:BC w a fs)(hl:fs.length<=1048576)(l:∀f∈fs,AV f)(j:FU fs nx cp=false) :
  Ca 115 #[.agg #[.slice a fs.length c,I6 nx,I6 cp,.bool sg]] w λe w'=>
   e=.returned (.bool (Cg fs nx cp sg))/\Bw w w':=by
 have O:Hid (Cg fs nx cp sg=false):=by unfold Cg;rw[j];exact rfl
 rcases k8 fs nx cp j with d|⟨d,g⟩|⟨d,g,i⟩|⟨d,g,i,k⟩|⟨d,g,i,k,m⟩|⟨d,g,i,k,m,q⟩
 all_goals
  clear j;go_enter func115,ntmps115;go_wp2_with (go_at_call 124;refine(mO a c fs _ (hv.J Af) hl l).an λw' b=>?_;obtain⟨p,n⟩:=Ah b);go_ret
  first
  |exact⟨AE O.o.ai,Af⟩
  |exact⟨AE O.o.ai,Af.aj b⟩
def kD{sg f g}{l:List F}{m}(h:l[m]?=some g):CM sg f (l.drop m)=(GX sg f g&&CM sg f (l.drop (m+1))):=by
 rw[Ck h];rfl
def ox(h:P:=by
 first
  | (have _:=tP
     have HR:Hid (Cg fs nx cp true=Bs true nx [] fs):=by unfold Cg;rw[hh];exact rfl)
  |(have HR:Hid (Cg fs nx cp false=Bs false nx [] fs):=by unfold Cg;rw[hh];exact rfl)
 obtain⟨h1,h2,h3,h4,h5,h6⟩:0<=cp/\cp<=40/\(fs.length:Int)<=cp/\DC fs=true/\1<=nx/\nx<=1000001:=by
  unfold FU at hh;simpa[yk] using hh
 clear hh;go_enter func115,ntmps115;go_wp2_with (go_at_call 124;refine(mO a c fs _ (hv.J Af) (by omega) hs).an λw' hb'=>?_;obtain⟨hc,hf⟩:=Ah hb');have q0:w'.cell? ⟨w.heap.size,0,none⟩=some (.slice a fs.length c):=by rw[hc _ _ (by simp)];simp[go_sem]
 have q1:w'.cell? ⟨w.heap.size,1,none⟩=some (.int .i64 nx):=by rw[hc _ _ (by simp)];simp[go_sem]
 first
  | (have _:=tP
     have q3:w'.cell? ⟨w.heap.size,3,none⟩=some (.bool true):=by rw[hc _ _ (by simp)];simp[go_sem])
  |(have q3:w'.cell? ⟨w.heap.size,3,none⟩=some (.bool false):=by rw[hc _ _ (by simp)];simp[go_sem])
 have hB:Bw w w':=Af.aj hb';have hz:w.heap.size<w'.heap.size:=by have:=hb'.size;simp at this;omega
 clear hc hf hb'
 first
  | (have _:=tP
     go_loopw [42] (λi wr=>∃(k:Nat),k<=fs.length/\i=.int .i64 k/\Cg fs nx cp true=Bs true nx (fs.take k) (fs.drop k)/\Bw w' wr) (mz fs.length))
  |(go_loopw [42] (λi wr=>∃(k:Nat),k<=fs.length/\i=.int .i64 k/\Cg fs nx cp false=Bs false nx (fs.take k) (fs.drop k)/\Bw w' wr) (mz fs.length))
 case atStart=>exact⟨0,by omega,rfl,HR.o,Aj⟩
 case round=>
  obtain⟨wo,rfl⟩:∃x,x=wr:=⟨wr,rfl⟩
  obtain⟨k,hk,rfl,hG,hb⟩:=hrel
  first
   | (have _:=tP
      have HG:Hid (Cg fs nx cp true=Bs true nx (fs.take k) (fs.drop k)):=hG)
   |(have HG:Hid (Cg fs nx cp false=Bs false nx (fs.take k) (fs.drop k)):=hG)
  clear hG;have r0:=zab hb q0;have r1:=zab hb q1;have r3:=zab hb q3;have ay:w.heap.size<wo.heap.size:=yh hz hb.size;by_cases ax:k<fs.length
  .obtain⟨f,af⟩:=AJ ax;have HD:Hid (fs.drop k=f::fs.drop (k+1)):=Ck af;have ao:=(hv.J hB).J hb;obtain⟨b,o,rfl,c0,c1,s,cs,c2,hsl⟩:=ao k f af;by_cases h7:nx<=f.tag
   .go_wp2;go_ret;exact⟨AE (by rw[HG.o,HD.o,Bs,decide_eq_false (by omega)];rfl),hB.j (((hb.alloc hb.size _)).ac (by omega))⟩
   have aw:∀o,Bw wo (wo.alloc o):=λo=>Af;go_wp2
   first
    | (have _:=tP
       go_loopw [57] (λj w2=>∃(m:Nat),m<=k/\j=.int .i64 m/\CM true f (fs.take k)=CM true f ((fs.take k).drop m)/\Below (wo.heap.size+1) (wo.alloc (.cells #[.int .i64 f.tag,.string f.ak,.slice s f.ad.length cs] 145)) w2) (mz k))
    |(go_loopw [57] (λj w2=>∃(m:Nat),m<=k/\j=.int .i64 m/\CM false f (fs.take k)=CM false f ((fs.take k).drop m)/\Below (wo.heap.size+1) (wo.alloc (.cells #[.int .i64 f.tag,.string f.ak,.slice s f.ad.length cs] 145)) w2) (mz k))
   case atStart=>exact⟨0,by omega,rfl,rfl,Aj⟩
   case round=>
    obtain⟨m,hm,rfl,hP,ah⟩:=hrel
    first
     | (have _:=tP
        have HP:Hid (CM true f (fs.take k)=CM true f ((fs.take k).drop m)):=hP)
     |(have HP:Hid (CM false f (fs.take k)=CM false f ((fs.take k).drop m)):=hP)
    clear hP;have O:=ah;rw[<-Wy]at O;have Y:Bw wo wr:=(aw _).j (O.ac (by simp));have s1:wr.cell? ⟨wo.heap.size,1,none⟩=some (.string f.ak):=zab O (by simp[go_sem]);have s2:wr.cell? ⟨wo.heap.size,2,none⟩=some (.slice s f.ad.length cs):=zab O (by simp[go_sem]);have t3:=zab Y r3;have aA:wo.heap.size<wr.heap.size:=by have:=O.size;simp at this;omega
    have az:w.heap.size<wr.heap.size:=by omega
    by_cases aq:m<k
    .obtain⟨g,am⟩:∃g,fs[m]?=some g:=⟨fs[m],by simp⟩
     first
      | (have _:=tP
         have HQ:Hid (CM true f ((fs.take k).drop m)=(GX true f g&&CM true f ((fs.take k).drop (m+1)))):=kD (by rw[Wl aq];exact am))
      |(have HQ:Hid (CM false f ((fs.take k).drop m)=(GX false f g&&CM false f ((fs.take k).drop (m+1)))):=kD (by rw[Wl aq];exact am))
     obtain⟨b',o',ar,d0,d1,s',au,d2,ai⟩:=(ao.J Y) m g am;simp only[Y5,Addr.mk.injEq,and_true]at ar;obtain⟨rfl,rfl⟩:=ar
     first
      | (have _:=tP
         obtain⟨_,HS,_⟩:=hs f (yd af);have aj:=hsl.J Y;cases hcl:(g.ak.toList==f.ak.toList)
         . have HK:Hid (GX true f g=true):=by
             rw[EV]at hcl;unfold GX;rw[hcl];exact rfl
           go_wp2;go_roundw
           case rel=>exact⟨m+1,by omega,by go_num,by rw[HP.o,HQ.o,HK.o];rfl,ah.alloc (by omega) _⟩
           case measure=>(simp;omega)
         · cases av:decide (f.ad=g.ad)
           · have HK:Hid (GX true f g=true):=(show GX true f g=true from by unfold GX;rw[av];simp)
             go_wp2_with (go_at_call 175;refine(SW s s' cs au f.ad g.ad _ (aj.J Af) (ai.J Af) HS).an λw3 ak=>?_);go_roundw
             case rel=>exact⟨m+1,by omega,by go_num,by rw[HP.o,HQ.o,HK.o];rfl,(ah.alloc (by omega) _).j (ak.ac (by simp;omega))⟩
             case measure=>(simp;omega)
           . have HK:Hid (GX true f g=false):=by
               rw[EV]at hcl;unfold GX;rw[hcl,av];exact rfl
             go_wp2_with (go_at_call 175;refine(SW s s' cs au f.ad g.ad _ (aj.J Af) (ai.J Af) HS).an λw3 ak=>?_);go_ret;refine⟨AE ?_,hB.j ((hb.ac (by omega)).j ((Y.alloc (by omega) _).j (ak.ac (by simp;omega)) |>.ac ?_))⟩
             · rw[HG.o,HD.o,Bs,HP.o,HQ.o,HK.o]
               simp
             · have:=hb.size
               omega)
      | (have HK:Hid (GX false f g=true):=by unfold GX;exact rfl
         go_wp2;go_roundw
         case rel=>exact⟨m+1,by omega,by go_num,by rw[HP.o,HQ.o,HK.o];rfl,ah.alloc (by omega) _⟩
         case measure=>(simp;omega))
    go_wp2;go_roundw
    case rel=>
     refine⟨k+1,by omega,by go_num,?_,hb.aj Y⟩;rw[HG.o,HD.o,Bs,HP.o,yD (by simp;omega),decide_eq_true (by omega),GC fs k f af];rfl
    case measure=>(simp;omega)
  go_wp2;go_ret;exact⟨AE (by rw[HG.o,yD (by omega),Bs]),hB.j (hb.ac (by omega))⟩
 ):=h
def zgO(a c fs nx cp w)(hv:BC w a fs)(hl:fs.length<=c)(hs:∀f∈fs,AV f)(hh:FU fs nx cp=true) :
  Ca 115 #[.agg #[.slice a fs.length c,.int .i64 nx,.int .i64 cp,.bool true]] w λe w'=>
   e=.returned (.bool (Cg fs nx cp true))/\Bw w w':=by
 have tP:=trivial;exact ox
def zgd(a c fs nx cp w)(hv:BC w a fs)(hl:fs.length<=c)(hs:∀f∈fs,AV f)(hh:FU fs nx cp=true) :
  Ca 115 #[.agg #[.slice a fs.length c,.int .i64 nx,.int .i64 cp,.bool false]] w λe w'=>
   e=.returned (.bool (Cg fs nx cp false))/\Bw w w':=by
 exact ox
def JY(a c fs nx cp sg w)(hv:BC w a fs)(hl:fs.length<=c)(g:fs.length<=1048576)(d:∀f∈fs,AV f) :
  Ca 115 #[.agg #[.slice a fs.length c,I6 nx,I6 cp,.bool sg]] w λe w'=>
   e=.returned (.bool (Cg fs nx cp sg))/\Bw w w':=by
 cases b:FU fs nx cp
 .exact zhI a c fs nx cp sg w hv g d b
 cases sg
 .exact zgd a c fs nx cp w hv hl d b
 exact zgO a c fs nx cp w hv hl d b
section
attribute [local go_sem ↓] wp_at_zero wp_at_succ
def MU(v w) :
  Ca 267 #[.agg #[I6 v.kind,I6 v.num,.string v.av]] w λe w'=>
   e=.returned (.bool (Cr v))/\Bw w w':=by
 go_enter func267,ntmps267;go_wp2
 all_goals go_ret
 all_goals exact⟨AE (by simp[Cr,BT, *]),Af⟩
def ziv(t w)(k:t.le maxLen) :
  Ca 266 #[.agg #[I6 t.kind,I6 t.op,.string t.var,I6 t.val.kind,I6 t.val.num,.string t.val.av]] w λe w'=>
   e=.returned (.bool (Dt t))/\Bw w w':=by
 obtain ⟨c,g⟩:=k;obtain ⟨G⟩:Nonempty (Hid (Dt t=if t.kind==0 then t.op==0 && (BT t.var && Cr t.val)
  else if t.kind==1 then t.op==0&&(BT t.var&&Bu t.val)
  else if t.kind==2 then t.op==0&&(Aw t.var.data.toList&&Cr t.val)
  else if t.kind==3 then decide (1<=t.op)&&(decide (t.op<=6)&&((BT t.var&&Bu t.val)||(Aw t.var.data.toList&&Cr t.val)))
  else false)):=⟨rfl⟩
 unfold BT at G;by_cases i:t.kind=0
 .have O:(t.kind==0)=true:=by simp[i]
  cases h1:(t.op==0)<;>cases b:t.var.toList.isEmpty<;>cases h3:Cr t.val
  all_goals
   go_enter func266,ntmps266;go_wp2_with (go_at_call 267;refine(MU t.val _).an λw' a=>?_)
  all_goals try go_ret
  all_goals first
   |exact⟨AE (by rw[G.o,O,h1,b,h3];rfl),Af⟩
   |exact⟨AE (by rw[G.o,O,h1,b,h3];rfl),Af.aj a⟩
 by_cases f:t.kind=1
 .have e1:(t.kind==1)=true:=by simp[f]
  have O:(t.kind==0)=false:=by simp[f]
  cases h1:(t.op==0)<;>cases b:t.var.toList.isEmpty<;>cases h3:Bu t.val
  all_goals
   go_enter func266,ntmps266;go_wp2_with (go_at_call 176;refine(S0 t.val _ g).an λw' a=>?_)
  all_goals try go_ret
  all_goals first
   |exact⟨AE (by rw[G.o,O,e1,h1,b,h3];rfl),Af⟩
   |exact⟨AE (by rw[G.o,O,e1,h1,b,h3];rfl),Af.aj a⟩
 by_cases k2:t.kind=2
 .have e2:(t.kind==2)=true:=qZ;have e1:(t.kind==1)=false:=qZ;have O:(t.kind==0)=false:=qZ;cases h1:(t.op==0)<;>cases b:Aw t.var.data.toList<;>cases h3:Cr t.val
  all_goals
   go_enter func266,ntmps266;go_wp2_with (first|(go_at_call 116;refine(Hg t.var _ c).ac ?_;rintro e w' ⟨rfl,rfl⟩)|(go_at_call 267;refine(MU t.val _).an λw' a=>?_))
  all_goals try go_ret
  all_goals first
   |exact⟨AE (by rw[G.o,O,e1,e2,h1,b,h3];rfl),Af⟩
   |exact⟨AE (by rw[G.o,O,e1,e2,h1,b,h3];rfl),Af.aj a⟩
 have e2:(t.kind==2)=false:=QC;have e1:(t.kind==1)=false:=by simpa using f
 have O:(t.kind==0)=false:=by simpa using i
 by_cases k3:t.kind=3
 .have e3:(t.kind==3)=true:=Lt;by_cases Y:1<=t.op/\t.op<=6
  .obtain⟨o1,o2⟩:=Y;cases h1:t.var.toList.isEmpty
   .cases h4:Aw t.var.data.toList<;>cases h3:Cr t.val
    all_goals
     go_enter func266,ntmps266;go_wp2_with (first|(go_at_call 116;refine(Hg t.var _ c).ac ?_;rintro e w' ⟨rfl,rfl⟩)|(go_at_call 267;refine(MU t.val _).an λw' a=>?_))
    all_goals try go_ret
    all_goals first
     |exact⟨AE pF,Af⟩
     |exact⟨AE pF,Af.aj a⟩
   have h4:Aw t.var.data.toList=false:=SD (by
    have:t.var.toList=[]:=qt;rw[<-Kg,this];rfl)
   cases b:Bu t.val
   all_goals
    go_enter func266,ntmps266;go_wp2_with (first|(go_at_call 116;refine(Hg t.var _ c).ac ?_;rintro e w' ⟨rfl,rfl⟩)|(go_at_call 176;refine(S0 t.val _ g).an λl j=>?_;have m:At l w.heap.size 2 (.string t.var):=zab j qk))
   all_goals try go_ret
   all_goals exact⟨AE (by rw[G.o,O,e1,e2,e3,h1,b,h4,decide_eq_true o1,decide_eq_true o2];rfl),Af.aj j⟩
  obtain⟨D⟩:Nonempty (Hid (∀z,(decide (1<=t.op)&&(decide (t.op<=6)&&z))=false)):=⟨λz=>by
   by_cases h:1<=t.op
   .have d:¬t.op<=6:=λd=>Y ⟨h,d⟩;rw[decide_eq_false d];simp
   rw[decide_eq_false h];rfl⟩
  by_cases o1:1<=t.op
  focus
   have o2:¬t.op<=6:=λh=>Y ⟨o1,h⟩
  rotate_left;rotate_left
  all_goals
   go_enter func266,ntmps266;go_wp2;go_ret;exact⟨AE (by rw[G.o,O,e1,e2,e3];first|exact D.o _|exact(D.o _).ai),Af⟩
 have e3:(t.kind==3)=false:=by simpa using k3
 go_enter func266,ntmps266;go_wp2;go_ret;exact⟨AE (by rw[G.o,O,e1,e2,e3];rfl),Af⟩
def Ln(s w)(b:s.size<=maxLen) :
  Ca 265 #[.string s] w λe w'=>e=.returned (.bool (DN s))/\w'=w:=by
 cases a:Aw s.data.toList
 all_goals
  go_enter func265,ntmps265;go_wp2_with (go_at_call 116;refine(Hg s _ b).ac ?_;rintro e w' ⟨rfl,rfl⟩);go_ret
 .exact⟨AE (by simp[DN,a]),rfl⟩
 exact⟨AE (by rw[DN,a,<-EV,lC];rfl),rfl⟩
def zj2(x a c){q}(w)(hv:CJ q w a x.aa)(hc:x.ak.size<=maxLen)(hs:CP Tm.le maxLen x.aa)(hl:x.aa.length<=1048576) :
  Ca 233 #[.agg #[.bool x.neg,.string x.ak,.slice a x.aa.length c]] w λe w'=>
   e=.returned (.bool (Dc x))/\Bw w w':=by
 exact pL
def Lp(_:World)(r:List Value)(x:ByteArray):Prop:=r=[.string x]
def uq{w w' r x}(h:Lp w r x):Lp w' r x:=h
abbrev Hu(q:Option Nat)(w:World)(a:Option Addr)(xs:List ByteArray):Prop:=Bq Lp q 9 1 w a xs
def Hu.J{q w w' a xs}(h:Hu q w a xs)(b:Bw w w'):Hu q w' a xs:=Bq.J h (λ_ _ _ h=>uq h) b
def Hu.get{q w a xs i x}(h:Hu q w a xs)(g:xs[i]?=some x):∃b o,a=some ⟨b,o,none⟩/\Qb q w 9 b/\At w b (o+i) (.string x):=by
 obtain⟨b,o,r,f,d,j,e,c⟩:=h i x g;unfold Lp at c;subst c;exact⟨b,o,f,d,by simpa using e 0 _ rfl⟩
def UO(s a c xs w){q}(hv:Hu q w a xs)(hl:xs.length<=1048576) :
  Ca 106 #[.string s,.slice a xs.length c] w λe w'=>e=.returned (.bool (BI s xs))/\w'=w:=by
 go_enter func106,ntmps106;go_wp2
 go_loopw [9] (λi wr=>∃(k:Nat),k<=xs.length/\i=I6 k/\BI s xs=BI s (xs.drop k)/\wr=w) (mz xs.length)
 case atStart=>exact⟨0,qd,rfl,rfl,rfl⟩
 case round=>
  obtain⟨k,p,rfl,g,l⟩:=hrel;subst l;have d:Hid (BI s xs=BI s (xs.drop k)):=g;clear g;by_cases Y:k<xs.length
  .obtain⟨x,O⟩:=AJ Y;obtain⟨b,o,rfl,m,n⟩:=hv.get O;have f:Hid (xs.drop k=x::xs.drop (k+1)):=Ck O;cases e1:(s.toList==x.toList)
   all_goals go_wp2
   .go_roundw
    case rel=>
     refine⟨k+1,qd,ql,?_,(by first|rfl|trivial)⟩;rw[EV]at e1;have:x≠s:=λh=>by subst h;simp at e1
     rw[d.o,f.o];simp[BI,this]
    case measure=>(simp;omega)
   go_ret;rw[EV]at e1;have j:s=x:=QB;exact⟨AE (by rw[d.o,f.o];simp[BI,j]),rfl⟩
  go_wp2;go_ret;exact⟨AE (by rw[d.o,yD qd];rfl),rfl⟩
def SI(a c es S)(x:Nat)(s w){q}(hv:BP q w a es)(hS:AY es S)(n:S[x]?=some s) :
  Ca 236 #[.slice a es.length c,.int .i64 (x:Int)] w λe w'=>e=.returned (.int .i64 (s.1:Int))/\w'=w:=by
 have r:=hS.1;go_enter func236,ntmps236;go_wp2
 go_loopw [1] (λi wr=>∃(k:Nat)(t:Sp),i=.int .i64 k/\S[k]?=some t/\t.1=s.1/\wr=w) (λi _=>(intOf i).toNat)
 case atStart=>exact⟨x,s,rfl,n,rfl,rfl⟩
 case round=>
  obtain⟨k,t,rfl,f,g,u⟩:=hrel;subst u;have C:k<S.length:=(yf.1 f).1;obtain⟨e,O⟩:∃e,es[k]?=some e:=⟨es[k]'(by omega),qe⟩
  have y:k<es.length:=qd;obtain⟨b,o,rfl,v,I,D,M,z,J,A,l,K⟩:=hv.get O;by_cases Y:e.kind=2
  .obtain⟨m,E,sa,sb,p,B,L,G,j,H,d⟩:=hS.op f O Y;rw[p]at l;go_wp2;go_roundw
   case rel=>exact⟨m,sa,rfl,j,(by rw[<-g,d]),(by first|rfl|trivial)⟩
   case measure=>simp[intOf];omega
  have d:=hS.leaf f O Y;go_wp2;go_ret;refine⟨?_,rfl⟩;rw[<-g,d];rfl
def lG(a c es){q}(x i g Y d:Nat)(e w)(hv:BP q w a es)(O:es[x]?=some e)(J:e.kind=2)(j:e.a=(i:Int))(f:e.b=(g:Int))(C:Y<=20)(D:d<=20)(t:Ca 269 #[.slice a es.length c,I6 (i:Int)] w λe w'=>e=.returned (I6 (Y:Int))/\w'=w)(y:Ca 269 #[.slice a es.length c,I6 (g:Int)] w λe w'=>e=.returned (I6 (d:Int))/\w'=w) :
  Ca 269 #[.slice a es.length c,I6 (x:Int)] w λe w'=>e=.returned (I6 ((1+max Y d:Nat):Int))/\w'=w:=by
 have B:x<es.length:=(yf.1 O).1;obtain⟨b,o,rfl,l,I,v,k,n,z,p,s,A⟩:=hv.get O;rw[j]at s;rw[f]at A;have tok:True:=trivial;clear l v k n z p hv j f O;by_cases u:(Y:Int)<(d:Int)
 all_goals
  go_enter func269,ntmps269;go_wp2_with (first|(go_at_call 269;have _t:=tok;refine t.ac ?_;rintro E G ⟨rfl,r⟩;subst r;clear tok)|(go_at_call 269;refine y.ac ?_;rintro H K ⟨rfl,m⟩;subst m));go_ret;refine⟨E_ ?_,rfl⟩;omega
def k_(a c es S){q}(w)(hv:BP q w a es)(hS:AY es S):∀(x:Nat)(s:Sp),S[x]?=some s ->
  Ca 269 #[.slice a es.length c,I6 (x:Int)] w λe w'=>e=.returned (I6 (s.2:Int))/\w'=w:=by
 have n:=hS.1;intro x
 induction x using Nat.strongRecOn with
 |_ x ih=>
  intro s g;have y:x<S.length:=(yf.1 g).1;obtain⟨e,O⟩:∃e,es[x]?=some e:=⟨es[x]'(by omega),qe⟩
  have r:x<es.length:=qd;by_cases Y:e.kind=2
  .obtain⟨d,i,sa,sb,m,l,E,v,j,k,f⟩:=hS.op g O Y;have:=lG a c es x d i sa.2 sb.2 e w hv O Y m l (hS.aZ d sa j) (hS.aZ i sb k) (ih d qd sa j) (ih i qd sb k);rw[f];exact this
  have f:=hS.leaf g O Y;obtain⟨b,o,rfl,p,z,D,G,t,B,u,A,C⟩:=hv.get O;go_enter func269,ntmps269;go_wp2;go_ret;exact⟨by rw[f];rfl,rfl⟩
def zim(x:Ru)(a f c d j g){q}(w)(O:CH q w a x.af)(hl:x.af.length<=1048576) :
  Ca 54 #[.agg #[.string x.name,I6 x.aH,.slice a x.af.length f,.slice c x.exprs.length d,.slice j x.ao.length g]] w λe w'=>
   e=.returned (I6 (Ad x.af:Int))/\Bw w w':=by
 go_enter func54,ntmps54;exact oV
def LD:List ByteArray:=[⟨#[43]⟩,⟨#[45]⟩,⟨#[42]⟩,⟨#[47]⟩,⟨#[37]⟩]
def Jr(c:Int):ByteArray:=strOfNums [c]
def sU{c}(O:0<=c)(a:c<256):BI (Jr c) LD=DY c:=by
 have key:∀n:Fin 256,BI (Jr ((n.val:Nat):Int)) LD=DY ((n.val:Nat):Int):=Ns;obtain⟨n,rfl⟩:=Ym O;exact key ⟨n,qd⟩
def VA(c w b)(h:At w b 0 (.int .u8 c)):(convert 22 9 (.slice (some ⟨b,0,none⟩) 1 1)).run prog w=.ok (.string (Jr c)) w:=
 run_convert_bytes_arg (P:=prog) _ 22 5 underlying22 underlying5 b 0 1 1 [c] rfl (λi a=>by
  obtain rfl:i=0:=qd
  simpa using h) 9 underlying9
def Xp(w):Ca 268 #[] w λe w'=>e=.returned (.slice (some ⟨w.heap.size,0,none⟩) 5 5)/\w'=w.alloc (.cells #[.string ⟨#[43]⟩,.string ⟨#[45]⟩,.string ⟨#[42]⟩,.string ⟨#[47]⟩,.string ⟨#[37]⟩] 9):=by
 go_enter func268,ntmps268;go_wp2;exact Nd
def pq(w b)(h:w.heap[b]?=some (.cells #[.string ⟨#[43]⟩,.string ⟨#[45]⟩,.string ⟨#[42]⟩,.string ⟨#[47]⟩,.string ⟨#[37]⟩] 9 (0,0))):Hu none w (some ⟨b,0,none⟩) LD:=by
 intro i x a;refine⟨b,0,[.string x],rfl,Qb.bare _ _ _,rfl,?_,rfl⟩;intro j v hj;have O:j=0:=by
  exact Ti
 subst O;simp at hj;subst hj;have c:i<5:=(yf.1 a).1;simp only[World.cell?,h]
 match i,c with
 |0,_=>simp[LD]at a;simp[a]
 |1,_=>simp[LD]at a;simp[a]
 |2,_=>simp[LD]at a;simp[a]
 |3,_=>simp[LD]at a;simp[a]
 |4,_=>simp[LD]at a;simp[a]
def Uw(c)(O:0<=c)(a:c<256)(b w)(h:w.heap[b]?=some (.cells #[.string ⟨#[43]⟩,.string ⟨#[45]⟩,.string ⟨#[42]⟩,.string ⟨#[47]⟩,.string ⟨#[37]⟩] 9 (0,0))) :
  Ca 106 #[.string (Jr c),.slice (some ⟨b,0,none⟩) 5 5] w λe w'=>e=.returned (.bool (DY c))/\w'=w:=by
 rw[<-sU O a];exact UO (Jr c) _ 5 LD w (pq w b h) qh
def rS(w:World)(o b)(h:b=w.heap.size):(w.alloc o).drew.heap[b]?=some o:=by
 subst h;exact heap_alloc_new _ _
def ry(w:World)(o o' b)(h:b=w.heap.size):((w.alloc o).alloc o').drew.heap[b]?=some o:=by
 subst h;exact(yV _ _ _ qe).j (heap_alloc_new _ _)
end
def CP.ac{α a N M}(h:N<=M)(c:∀x,a N x->a M x){xs:List α}(b:CP a N xs):CP a M xs:=⟨yi b.1 h,λx O=>c x (b.2 x O)⟩
def Tm.ac{N M}(h:N<=M)(x:Tm)(a:x.le N):x.le M:=⟨yi a.1 h,yi a.2 h⟩
def Pt.ac{N M}(h:N<=M)(x:Pt)(a:x.le N):x.le M:=⟨yi a.1 h,a.2.ac h (Tm.ac h)⟩
def Ex.ac{N M}(h:N<=M)(x:Ex)(a:x.le N):x.le M:=⟨yi a.1 h,yi a.2 h⟩
def Ac.ac{N M}(h:N<=M)(x:Ac)(a:x.le N):x.le M:=⟨yi a.1 h,yi a.2 h⟩
def Ru.ac{N M}(h:N<=M)(x:Ru)(a:x.le N):x.le M:=⟨yi a.1 h,a.2.1.ac h (Pt.ac h),a.2.2.1.ac h (Ex.ac h),a.2.2.2.ac h (Ac.ac h)⟩
def Fm:1048576<=maxLen:=by unfold maxLen;omega
def Ek(w:World)(b:Nat)(x:Ru)(a_pats:Option Addr)(c_pats:Nat)(a_exprs:Option Addr)(c_exprs:Nat)(a_acts:Option Addr)(c_acts:Nat):Prop:=
 w.cell? ⟨b,0,none⟩=some (.string x.name)/\w.cell? ⟨b,1,none⟩=some (.int .i64 x.aH)/\w.cell? ⟨b,2,none⟩=some (.slice a_pats x.af.length c_pats)/\w.cell? ⟨b,3,none⟩=some (.slice a_exprs x.exprs.length c_exprs)/\w.cell? ⟨b,4,none⟩=some (.slice a_acts x.ao.length c_acts)
def Ek.J{w w' b x g d a c f e}(h:Ek w b x g d a c f e)(i:Bw w w'):Ek w' b x g d a c f e:=
 ⟨zab i h.1,zab i h.2.1,zab i h.2.2.1,zab i h.2.2.2.1,zab i h.2.2.2.2⟩
def Ek.made(w:World)(t x f c a b e d):Ek (w.alloc (.cells #[.string x.name,I6 x.aH,.slice f x.af.length c,.slice a x.exprs.length b,.slice e x.ao.length d] t)) w.heap.size x f c a b e d:=by
 refine⟨?_,?_,?_,?_,?_⟩<;>simp[go_sem]
structure Bi(b:Option Nat) (w w':World):Prop where
 rest:Below 0 w w'
 block:∀g,g<w.heap.size->b≠some g->w'.heap[g]?=w.heap[g]?
def Bi.refl(b w):Bi b w w:=⟨Aj,λ_ _ _=>rfl⟩
def Bi.j{b u v w}(h:Bi b u v)(k:Bi b v w):Bi b u w:=
 ⟨h.rest.j k.rest,λg a c=>(k.block g (yh a h.rest.size) c).j (h.block g a c)⟩
def Bi.ab{b u v}(h:Bw u v):Bi b u v:=⟨h.ac (yA _),λg a _=>h.block g a⟩
def Bi.set{w g o}(x):Bi (some g) w (w.setCell ⟨g,o,none⟩ x):=
 ⟨Aj.setCell (yA _) _,λh _ a=>Yb _ _ _ _ (λe=>a H4)⟩
def Bi.J{b w w' B}(h:Bi b w w')(c:B<=w.heap.size)(a:∀g,b=some g->B<=g):Below B w w':=
 ⟨h.rest.os,h.rest.tape,h.rest.output,h.rest.size,λk d=>h.block k qd (λe=>by have:=a k e;omega)⟩
abbrev Kt:=Option Addr × Option Addr × Option Addr
def AU(x:Kt):Value:=.agg #[.pointer x.1,.pointer x.2.1,.pointer x.2.2]
def ME{x y}(h:AU x=AU y):x=y:=by
 obtain⟨a,b,c⟩:=x;simp_all[AU,Kt]
def Bc(w:World)(p:Option Addr):Prop:=∀a,p=some a->∃c,w.heap[a.block]?=some (.cells c 145 (0,0))
def AK(w:World)(x:Kt):Prop:=Bc w x.1/\Bc w x.2.1/\Bc w x.2.2
structure TJ(P:Program) (kt pt ft:TypeId):Prop where
 k:P.underlying kt=some (.array 3 pt)
 p:P.underlying pt=some (.pointer ft)
 sp:∀w:World,(sizeOf pt).run P w=.ok 1 w
 sf:∃n,n≠0/\∀w:World,(sizeOf ft).run P w=.ok n w
def Da(x:Kt):List (Kt × Value)->Nat->Option (Nat × Value)
 |[],_=>none
 |e::es,i=>if x=e.1 then some (i,e.2) else Da x es (i+1)
def ED(es:List MapEntry)(L:List (Kt × Value)):Prop:=es.map (λe=>(e.key,e.val))=L.map (λx=>(AU x.1,x.2))
def Ce(x:Kt)(L:List (Kt × Value)):Option Value:=(L.find? (λy=>decide (y.1=x))).map Prod.snd
def BD(x:Kt)(v:Value)(L:List (Kt × Value)):List (Kt × Value):=if(Ce x L).isSome then L.map (λy=>if y.1=x then(x,v) else y) else L++[(x,v)]
def Dm(x:Kt)(L:List (Kt × Value)):List (Kt × Value):=L.filter (λy=>decide (y.1≠x))
def PB(x):∀(L:List (Kt × Value))(i:Nat),(Da x L i).map Prod.snd=Ce x L
 |[],i=>rfl
 |y::r,i=>by
  have O:=PB x r (i+1)
  unfold Da Ce
  by_cases h:x=y.1
  .rw[if_pos h,List.find?_cons_of_pos (by simp[h])]
   rfl
  rw[if_neg h,Wv (by simpa usingλe=>h e.ai)]
  exact O
def PT{x}:∀{L:List (Kt × Value)}{i j:Nat}{v:Value},Da x L i=some (j,v)->∃k,j=i+k/\L[k]?=some (x,v)
 |[],_,_,_,h=>by simp[Da]at h
 |y::r,i,j,v,h=>by
  unfold Da at h
  split at h
  .rename_i e
   simp only[Y5,YW]at h
   exact⟨0,by omega,by rw[yC,<-h.2,e]⟩
  obtain⟨k,a,h2⟩:=PT h
  exact⟨k+1,qd,qv⟩
def Vq{x}:∀{L:List (Kt × Value)}{i:Nat},Da x L i=none->∀y∈L,y.1≠x
 |[],_,_,y,a=>by simp at a
 |z::r,i,h,y,a=>by
  unfold Da at h
  split at h
  .cases h
  rename_i e
  rcases yO.1 a with rfl|a
  .exactλO=>e O.ai
  exact Vq h y a
def RN{x v u}:∀{L:List (Kt × Value)}{k:Nat},(L.map Prod.fst).Nodup->L[k]?=some (x,v)->L.set k (x,u)=L.map (λy=>if y.1=x then(x,u) else y)
 |[],k,_,h=>by simp at h
 |y::r,0,hn,h=>by
  simp only[yC,Y5]at h
  subst h
  simp only[yn,Yg]at hn
  rw[yI,yn,if_pos rfl]
  congr 1
  have:r.map (λy=>if y.1=x then(x,u) else y)=r.map id:=Yn λz O=>by
   rw[if_neg (λe:z.1=x=>hn.1 (by rw[<-e];exact yT O))]
   rfl
  rw[this,KQ]
 |y::r,k+1,hn,h=>by
  simp only[yw]at h
  simp only[yn,Yg]at hn
  have a:y.1≠x:=λe=>hn.1 pE
  rw[yG,RN hn.2 h,yn,if_neg a]
def uT{x v L}(h:(Ce x L).isSome=true):(BD x v L).map Prod.fst=L.map Prod.fst:=by
 rw[BD,if_pos h,Yp];refine Yn λy _=>?_;show(if y.1=x then(x,v) else y).1=y.1;split
 .rename_i e;exact e.ai
 rfl
def VM{x v}:∀{L:List (Kt × Value)}{k:Nat},(L.map Prod.fst).Nodup->L[k]?=some (x,v)->L.eraseIdx k=Dm x L
 |[],k,_,h=>by simp at h
 |y::r,0,hn,h=>by
  simp only[yC,Y5]at h
  subst h
  simp only[yn,Yg]at hn
  rw[List.eraseIdx_cons_zero,Dm,yN (by simp)]
  refine(Yv.2 λz O=>?_).ai
  simpa usingλe:z.1=x=>hn.1 (by rw[<-e];exact yT O)
 |y::r,k+1,hn,h=>by
  simp only[yw]at h
  simp only[yn,Yg]at hn
  have hy:y.1≠x:=λe=>hn.1 pE
  rw[Wp,VM hn.2 h,Dm,Dm,yL QA]
def iK{x L}(h:∀y∈L,y.1≠x):Dm x L=L:=Yv.2 λy a=>by simpa using h y a
def MV{x L}:(Ce x L).isSome=true↔x∈L.map Prod.fst:=by simp[Kt,Ce]
structure Ag(w:World) (b:Nat) (L:List (Kt × Value)):Prop where
 at_:∃es clock,w.heap[b]?=some (.map es clock)/\ED es.toList L/\(es.toList.map (·.born)).Nodup/\∀e∈es.toList,e.born<clock
 nd:(L.map Prod.fst).Nodup
 ok:∀y∈L,AK w y.1
def gM{P w r es a}(b:w.heap[r]?=some (.map es a)):(getObj r).run P w=.ok (.map es a) w:=by simp[getObj,Sem.run,b]
def sM{P w r es a o}(b:w.heap[r]?=some (.map es a)):(setObj r o).run P w=.ok () { w with heap:=w.heap.setIfInBounds r o }:=by simp[setObj,Sem.run,b]
section
variable {P : Program} {kt pt ft : TypeId} (H : TJ P kt pt ft) {w : World}
def Rv(d:Nat){p q:Option Addr}(k:Bc w p)(f:Bc w q):(Op.equalIn (d+1) pt (.pointer p) (.pointer q)).run P w=.ok (decide (p=q)) w:=by
 obtain⟨n,g,c⟩:=H.sf;cases p with
 |none=>cases q<;>simp[Op.equalIn,run_underlying H.p]
 |some a=>
  cases q with
  |none=>simp[Op.equalIn,run_underlying H.p]
  |some b=>
   by_cases e:a=b
   .subst e;simp[Op.equalIn,run_underlying H.p,c,run_sameAddr_same]
   obtain⟨ca,j⟩:=k a rfl;obtain⟨cb,i⟩:=f b rfl;simp[Op.equalIn,run_underlying H.p,c,g,run_sameAddr_other w e j i,e]
def OA(c:Array Value)(i:Nat)(v:Value)(h:c[i]?=some v):(part pt c i).run P w=.ok v w:=by
 simp[part,isAgg,run_underlying H.p,h]
def rt{x y:Kt}(u:AK w x)(v:AK w y):(Op.equal kt (AU x) (AU y)).run P w=.ok (decide (x=y)) w:=by
 obtain⟨a,b,c⟩:=x;obtain⟨d,e,f⟩:=y;have g:=Rv H 9998 u.1 v.1;have i:=Rv H 9998 u.2.1 v.2.1;have j:=Rv H 9998 u.2.2 v.2.2;unfold Op.equal Op.maxDepth AU;rw[Op.equalIn];simp only at g i j;have s:=λ(l m n:Value)=>OA H (w:=w) #[l,m,n] 0 l rfl;have t:=λ(l m n:Value)=>OA H (w:=w) #[l,m,n] 1 m rfl;have z:=λ(l m n:Value)=>OA H (w:=w) #[l,m,n] 2 n rfl;have r:List.range' 0 3=[0,1,2]:=rfl;simp only[Nat.reduceAdd]at g i j;by_cases q:a=d
 .rw[decide_eq_true q]at g;by_cases p:b=e
  .rw[decide_eq_true p]at i;by_cases o:c=f
   .rw[decide_eq_true o]at j;rw[decide_eq_true (show(a,b,c)=(d,e,f) by rw[q,p,o])];simp[run_underlying H.k,H.sp,r,s,t,z,g,i,j]
   rw[decide_eq_false o]at j;rw[decide_eq_false (λh=>o (by injection h with _ h;injection h))];simp[run_underlying H.k,H.sp,r,s,t,z,g,i,j]
  rw[decide_eq_false p]at i;rw[decide_eq_false (λh=>p (by injection h with _ h;injection h))];simp[run_underlying H.k,H.sp,r,s,t,g,i]
 rw[decide_eq_false q]at g;rw[decide_eq_false (λh=>q (by injection h))];simp[run_underlying H.k,H.sp,r,s,g]
def tq(O:Bool)(d:Nat)(p:Option Addr):(Instr.checkKey O (d+1) pt (.pointer p)).run P w=.ok () w:=by
 simp[Instr.checkKey,run_underlying H.p]
def L7(O:Bool)(x:Kt):(Instr.checkKey O 10000 kt (AU x)).run P w=.ok () w:=by
 obtain⟨a,b,c⟩:=x;have j:=λ(d e f:Value)=>OA H (w:=w) #[d,e,f] 0 d rfl;have i:=λ(d e f:Value)=>OA H (w:=w) #[d,e,f] 1 e rfl;have g:=λ(d e f:Value)=>OA H (w:=w) #[d,e,f] 2 f rfl;have r:List.range' 0 3=[0,1,2]:=rfl;have k:=λp=>tq H (w:=w) O 9998 p;simp only[Nat.reduceAdd]at k;rw[show(10000:Nat)=9999+1 from rfl,Instr.checkKey];simp[run_underlying H.k,H.sp,AU,r,j,i,g,k]
def lN{x:Kt}(a:AK w x):∀{es:List MapEntry}{L:List (Kt × Value)}(i:Nat),ED es L->(∀y∈L,AK w y.1)->(Instr.findAsking kt (AU x) es i).run P w=.ok (Da x L i) w
 |[],L,i,he,_=>by
  cases L with
  |nil=>simp[Instr.findAsking,Da]
  |cons y r=>simp[ED]at he
 |e::es,L,i,he,hL=>by
  cases L with
  |nil=>simp[ED]at he
  |cons y r=>
   simp only[ED,yn,Yh,YW]at he
   have O:=lN a (i+1) (show ED es r from he.2) (λz Y=>hL z (by simp[Y]))
   rw[Instr.findAsking,he.1.1,he.1.2]
   simp only[S_,rt H a (hL y qe),Kx]
   by_cases h:x=y.1
   .simp[h,Da]
   simp[h,Da,O]
def vN(x){es L}(a:ED es L):Instr.findNow (.array 3 pt) (AU x) es 0=if es=[] then some none else none:=by
 cases es with
 |nil=>simp[Instr.findNow]
 |cons e es=>
  cases L with
  |nil=>simp[ED]at a
  |cons y r=>
   simp only[ED,yn,Yh,YW]at a;simp[Instr.findNow,Instr.sameNow]
def PA{x:Kt}(c:AK w x){es:List MapEntry}{L:List (Kt × Value)}(a:ED es L)(b:∀y∈L,AK w y.1):(Instr.findKey kt (AU x) es).run P w=.ok (Da x L 0) w:=by
 unfold Instr.findKey;simp only[S_,run_underlying H.k,Kx];rw[vN x a];cases es with
 |nil=>
  cases L with
  |nil=>simp[Da]
  |cons y r=>simp[ED]at a
 |cons e es=>simpa using lN H c 0 a b
def MM{mt Y:TypeId}(f:P.underlying mt=some (.map kt Y)){z:Value}(k:(zeroValue Y).run P w=.ok z w){b:Nat}{L:List (Kt × Value)}(h:Ag w b L){x:Kt}(j:AK w x)(O:Bool):(Instr.lookup mt (.map (some b)) (AU x) O).run P w=.ok (if O=true then .tuple #[(Ce x L).getD z,.bool (Ce x L).isSome] else(Ce x L).getD z) w:=by
 obtain⟨es,d,g,i,_⟩:=h.at_;have c:=PA H j i h.ok;have a:=PB x L 0;cases e:Da x L 0 with
 |none=>
  rw[e]at c a;rw[<-a];cases O<;>simp[Instr.lookup,run_underlying f,gM g,L7 H,c,k]
 |some p=>
  rw[e]at c a;rw[<-a];cases O<;>simp[Instr.lookup,run_underlying f,gM g,L7 H,c]
def jW(x):Instr.sameBits 10000 (AU x) (AU x)=true:=by
 obtain⟨a,b,c⟩:=x;simp[AU,Instr.sameBits]
def sW{es L}(h:ED es L):es.length=L.length:=by
 have:=congrArg List.length h;simpa using this
def Rw{es L}(h:ED es L){k:Nat}{x v}(b:L[k]?=some (x,v)):∃e,es[k]?=some e/\e.key=AU x/\e.val=v:=by
 have:=congrArg (·[k]?) h;simp only[yx,b,Wg]at this;cases a:es[k]? with
 |none=>rw[a]at this;simp at this
 |some e=>
  rw[a]at this;simp at this;exact⟨e,rfl,this.1,this.2⟩
def tI{mt N:TypeId}(B:P.underlying mt=some (.map kt N)){b:Nat}{L:List (Kt × Value)}(h:Ag w b L){x:Kt}(E:AK w x)(v:Value):∃o,(Instr.mapUpdate mt (.map (some b)) (AU x) v).run P w=.ok () { w with heap:=w.heap.setIfInBounds b o }/\∃es d,o=.map es d/\ED es.toList (BD x v L)/\(es.toList.map (·.born)).Nodup/\∀e∈es.toList,e.born<d:=by
 obtain⟨es,d,n,f,y,m⟩:=h.at_;have l:=PA H E f h.ok;have g:=PB x L 0;cases q:Da x L 0 with
 |none=>
  rw[q]at l g;refine⟨_,by simp[Instr.mapUpdate,run_underlying B,gM n,L7 H,l,sM n];rfl,_,_,rfl,?_,?_,?_⟩
  .have K:(Ce x L).isSome=false:=by rw[<-g];rfl
   unfold BD;rw[if_neg (by rw[K];decide)];simp only[ED]at f⊢;simp[f]
  .simp only[Ky,yJ,yn,YF];rw[yP];refine⟨y,qe,?_⟩;intro a M c t e;simp at t;subst t;subst e;obtain⟨z,I,e⟩:=yz.1 M;have:=m z I;omega
  .intro e O;simp only[Ky,yr,yv]at O;rcases O with O|rfl
   .have:=m e O;omega
   .exact Xz _
 |some p=>
  obtain⟨i,u⟩:=p;rw[q]at l g;obtain⟨k,A,s⟩:=PT q;rw[Yt]at A;subst A;obtain⟨C,Y,D,T⟩:=Rw f s;have R:i<es.size:=by have:=(yf.1 Y).1;simpa using this
  have J:(((es[i]?).map (·.key)).getD (AU x))=AU x:=by
   have:es[i]?=some C:=by rw[<-Yq];exact Y
   rw[this];exact D
  refine⟨_,by simp[Instr.mapUpdate,run_underlying B,gM n,L7 H,l,Instr.keyThatStays,J,jW,sM n];rfl,_,_,rfl,?_,?_,?_⟩
  .have G:BD x v L=L.set i (x,v):=by
    unfold BD;rw[if_pos (by rw[<-g];rfl),<-RN h.nd s]
   rw[G];show List.map _ _=List.map _ _;rw[W6];have O:es.toList.map (λe=>(e.key,e.val))=L.map (λx=>(AU x.1,x.2)):=f;rw[<-O,WP];apply YM;intro j;rw[yx,WJ,XB,yx];by_cases hj:i=j
   .subst hj;rw[Y];simp[R]
   simp[hj]
  .rw[WP];have:(es.toList.modify i λe=>{ e with key:=AU x,val:=v }).map (·.born)=es.toList.map (·.born):=by
    apply YM;intro j;rw[yx,WJ,yx];by_cases hj:i=j
    .subst hj;rw[Y];simp
    simp[hj]
   rw[this];exact y
  intro e O;rw[WP]at O;obtain⟨j,hj⟩:=List.mem_iff_getElem?.1 O;rw[WJ]at hj;by_cases r:i=j
  .subst r;rw[Y]at hj;simp at hj;rw[<-hj];exact m C (yd Y)
  simp[r]at hj;exact m e (yd QE)
def sV{mt q ty t2:TypeId}(hm:P.underlying mt=some (.map kt q)){b:Nat}{L:List (Kt × Value)}(h:Ag w b L){x:Kt}(n:AK w x):∃o,(Builtin.delete_ #[mt,t2] ty #[.map (some b),AU x]).run P w=.ok (.tuple #[]) { w with heap:=w.heap.setIfInBounds b o }/\∃es a,o=.map es a/\ED es.toList (Dm x L)/\(es.toList.map (·.born)).Nodup/\∀e∈es.toList,e.born<a:=by
 obtain⟨es,a,hb,c,f,g⟩:=h.at_;have hf:=PA H n c h.ok;cases d:Da x L 0 with
 |none=>
  rw[d]at hf;refine⟨_,qF,_,_,rfl,?_,f,g⟩;rw[iK (Vq d)];exact c
 |some p=>
  obtain⟨i,u⟩:=p;rw[d]at hf;obtain⟨k,l,j⟩:=PT d;rw[Yt]at l;subst l;obtain⟨s,m,t,r⟩:=Rw c j;have Y:i<es.size:=by have:=(yf.1 m).1;simpa using this
  refine⟨_,by simp[Builtin.delete_,run_underlying hm,gM hb,L7 H,hf,sM hb];rfl,_,_,rfl,?_,?_,?_⟩
  .rw[<-VM h.nd j];have O:es.toList.map (λe=>(e.key,e.val))=L.map (λx=>(AU x.1,x.2)):=c;show List.map _ _=List.map _ _;rw[Array.eraseIdxIfInBounds,dif_pos Y,WC,Wq,Wq,O]
  .rw[Array.eraseIdxIfInBounds,dif_pos Y,WC,Wq];exact f.sublist (WD _ _)
  intro e O;rw[Array.eraseIdxIfInBounds,dif_pos Y,WC]at O;exact g e ((WD _ _).mem O)
def Uj{mt d O ty}(c:P.underlying mt=some (.map d O)){b L}(h:Ag w b L):(Builtin.len_ #[mt] ty #[.map (some b)]).run P w=.ok (goInt L.length) w:=by
 obtain⟨es,a,e,f,_⟩:=h.at_;have:=sW f;simp[Builtin.len_,run_underlying c,gM e,<-this]
def zo{mt e O ty}(d:P.underlying mt=some (.map e O)){b L}(h:Ag w b L):∃a,(Builtin.clear_ #[mt] ty #[.map (some b)]).run P w=.ok (.tuple #[]) { w with heap:=w.heap.setIfInBounds b (.map #[] a) }:=by
 obtain⟨es,a,c,f,_⟩:=h.at_;exact⟨a,by simp[Builtin.clear_,run_underlying d,gM c,sM c]⟩
def tz{mt C:TypeId}(D:P.underlying mt=some (.map kt C)){z:Value}(K:(zeroValue C).run P w=.ok z w){b:Nat}{L:List (Kt × Value)}(h:Ag w b L){x:Kt}(J:AK w x):∃(es:Array MapEntry)(d i:Nat)(e:MapEntry),(Instr.mapEntry mt (.map (some b)) (AU x)).run P w=.ok (.tuple #[(Ce x L).getD z,goInt e.born]) { w with heap:=w.heap.setIfInBounds b (.map es d) }/\ED es.toList (BD x ((Ce x L).getD z) L)/\(es.toList.map (·.born)).Nodup/\(∀e∈es.toList,e.born<d)/\es.toList[i]?=some e/\e.key=AU x:=by
 obtain⟨es,d,m,f,G,n⟩:=h.at_;have l:=PA H J f h.ok;have g:=PB x L 0;cases q:Da x L 0 with
 |none=>
  rw[q]at l g;have s:Ce x L=none:=by rw[<-g];rfl
  refine⟨es.push { key:=AU x,val:=z,born:=d },d+1,es.size,{ key:=AU x,val:=z,born:=d },by rw[s];simp[Instr.mapEntry,run_underlying D,gM m,L7 H,l,K,sM m],?_,?_,?_,qe,rfl⟩
  .rw[s];unfold BD;rw[s,if_neg qh];simp only[ED]at f⊢;simp[f]
  .simp only[Ky,yJ,yn,YF];rw[yP];refine⟨G,qe,?_⟩;intro a N c v e;simp at v;subst v;subst e;obtain⟨y,M,e⟩:=yz.1 N;have:=n y M;omega
  .intro e O;simp only[Ky,yr,yv]at O;rcases O with O|rfl
   .have:=n e O;omega
   .exact Xz _
 |some p=>
  obtain⟨i,u⟩:=p;rw[q]at l g;obtain⟨k,B,Y⟩:=PT q;rw[Yt]at B;subst B;obtain⟨E,A,r,R⟩:=Rw f Y;have o:Ce x L=some u:=by rw[<-g];rfl
  have t:es[i]?=some E:=by rw[<-Yq];exact A
  have I:es.modify i (λe=>{ e with key:=AU x })=es:=by
   apply Array.ext_getElem?;intro j;rw[Y6];split
   .rename_i e;subst e;rw[t];simp[<-r]
   rfl
  refine⟨es,d,i,E,?_,?_,G,n,A,r⟩
  .rw[o];simp[Instr.mapEntry,run_underlying D,gM m,L7 H,l,Instr.keyThatStays,t,r,jW,sM m,I]
  rw[o];unfold BD;rw[o,if_pos (show(some u).isSome=true from rfl)];have:L.map (λy=>if y.1=x then(x,u) else y)=L:=by
   rw[<-RN h.nd Y];apply YM;intro j;rw[XB];split
   .rename_i e;subst e;rw[Y];simp[(yf.1 Y).1]
   rfl
  show ED es.toList (L.map _);rw[YY,this];exact f
def uJ{mt b L es}{a i:Nat}{e}(o:w.heap[b]?=some (.map es a))(k:ED es.toList L)(s:(L.map Prod.fst).Nodup)(q:(es.toList.map (·.born)).Nodup)(c:es.toList[i]?=some e){x}(m:e.key=AU x)(u):∃Y,(Instr.entryStore mt (.map (some b)) (goInt e.born) u).run P w=.ok () { w with heap:=w.heap.setIfInBounds b (.map Y a) }/\ED Y.toList (BD x u L)/\(Y.toList.map (·.born))=es.toList.map (·.born):=by
 have O:i<es.size:=by have:=(yf.1 c).1;simpa using this
 have f:es[i]?=some e:=by rw[<-Yq];exact c
 obtain⟨v,p⟩:∃v,L[i]?=some (x,v):=by
  have:=congrArg (·[i]?) (show es.toList.map (λe=>(e.key,e.val))=L.map (λx=>(AU x.1,x.2)) from k);simp only[yx,c,Wg]at this;cases g:L[i]? with
  |none=>rw[g]at this;simp at this
  |some y=>
   rw[g]at this;simp at this;obtain⟨d,n⟩:=this;rw[m]at d;exact⟨y.2,by rw[<-ME d.ai]⟩
 have t:es.findIdx? (λz=>(z.born:Int)==(e.born:Int))=some i:=by
  rw[Array.findIdx?_eq_some_iff_getElem];have r:es[i]=e:=by
   rw[Kd O]at f;exact Option.some.inj f
  refine⟨O,by rw[r];simp,λj hj=>?_⟩;have l:j<es.size:=Nat.lt_trans hj O;simp only[beq_iff_eq];intro C;have d:(es.toList.map (·.born))[j]?=some e.born:=by
   rw[yx,Yq,Kd l];simp only[Wg,Y5];omega
  have n:(es.toList.map (·.born))[i]?=some e.born:=by rw[yx,c];rfl
  have:=(List.getElem?_inj (by rw[yp];simpa using l) q).1 (d.j n.ai);omega
 have A:BD x u L=L.set i (x,u):=by
  unfold BD;rw[if_pos (MV.2 (yz.2 ⟨(x,v),yd p,rfl⟩)),<-RN s p]
 refine⟨es.modify i λz=>{ z with val:=u },?_,?_,?_⟩
 .simp[Instr.entryStore,gM o,goInt,asInt,asIntOf,t,sM o]
 .rw[A];show List.map _ _=List.map _ _;rw[W6];have B:es.toList.map (λe=>(e.key,e.val))=L.map (λx=>(AU x.1,x.2)):=k;rw[<-B,WP];apply YM;intro j;rw[yx,WJ,XB,yx];by_cases hj:i=j
  .subst hj;rw[c];simp[O,m]
  simp[hj]
 rw[WP];apply YM;intro j;rw[yx,WJ,yx];by_cases hj:i=j
 .subst hj;rw[c];simp
 simp[hj]
end
structure A6(w:World) (b r:Nat) (L:List (Kt × Value)) (todo:List Kt):Prop where
 at_:∃es clock since seen c0,w.heap[b]?=some (.map es clock)/\ED es.toList L/\(es.toList.map (·.born)).Nodup/\(∀e∈es.toList,e.born<clock)/\w.heap[r]?=some (.mapIter (some b) since seen c0)/\(∀e∈es.toList,e.born<since)/\since<=c0/\c0<=clock/\(leftOf es seen).toList.map (·.key)=todo.map AU
 nd:(L.map Prod.fst).Nodup
 ok:∀y∈L,AK w y.1
def A6.map{w b r L c}(h:A6 w b r L c):Ag w b L:=by
 obtain⟨es,a,since,seen,i,d,f,e,g,_⟩:=h.at_;exact⟨⟨es,a,d,f,e,g⟩,h.nd,h.ok⟩
def A6.len{w b r L a}(h:A6 w b r L a):w.heap[r]?≠w.heap[b]?:=by
 obtain⟨es,c,since,seen,f,e,i,g,j,d,_⟩:=h.at_;rw[e,d];simp
def Xm{α β:Type}{f:α->β}(a:∀x y,f x=f y->x=y):∀{l:List α},l.Nodup->(l.map f).Nodup
 |[],_=>by simp
 |x::r,h=>by
  rw[Yg]at h
  rw[yn,Yg]
  refine⟨λb=>?_,Xm a h.2⟩
  obtain⟨y,c,e⟩:=yz.1 b
  exact h.1 (a y x e▸c)
def Oz{α β:Type}{f:α->β}:∀{l:List α},(l.map f).Nodup->∀{x y:α},x∈l->y∈l->f x=f y->x=y
 |[],_,x,_,hx,_,_=>by simp at hx
 |z::r,h,x,y,hx,hy,e=>by
  rw[yn,Yg]at h
  rcases yO.1 hx with b|b
  .rcases yO.1 hy with a|a
   .rw[b,a]
   exact absurd (by rw[<-b,e];exact yT a) h.1
  rcases yO.1 hy with a|a
  .exact absurd (by rw[<-a,<-e];exact yT b) h.1
  exact Oz h.2 b a e
def Bc.bj{w w' p}(h:Bc w p)(d:∀(g:Nat)c,w.heap[g]?=some (.cells c 145 (0,0))->w'.heap[g]?=some (.cells c 145 (0,0))):Bc w' p:=λa O=>by
 obtain⟨c,b⟩:=h a O;exact⟨c,d _ c b⟩
def AK.bj{w w' x}(h:AK w x)(a:∀(g:Nat)c,w.heap[g]?=some (.cells c 145 (0,0))->w'.heap[g]?=some (.cells c 145 (0,0))):AK w' x:=⟨h.1.bj a,h.2.1.bj a,h.2.2.bj a⟩
def Bc.iter{w w' p}(h:Bc w p)(a:∀(g:Nat)c t,w.heap[g]?=some (.cells c t (0,0))->w'.heap[g]?=some (.cells c t (0,0))):Bc w' p:=h.bj λg c=>a g c _
def AK.iter{w w' x}(h:AK w x)(a:∀(g:Nat)c t,w.heap[g]?=some (.cells c t (0,0))->w'.heap[g]?=some (.cells c t (0,0))):AK w' x:=⟨h.1.iter a,h.2.1.iter a,h.2.2.iter a⟩
def RU{P w b r L d}(h:A6 w b r L d)(ty) :
  (d=[]/\(Instr.next (Pn r) false ty).run P w=.ok (.tuple #[.bool false]) w) ∨
  ∃ x v o f,x∈d/\(x,v)∈L/\(f=w∨f=w.drew)/\(Instr.next (Pn r) false ty).run P w=.ok (.tuple #[.bool true,AU x,v]) (ChangeMaps.setBlock f r o) /\
   A6 (ChangeMaps.setBlock f r o) b r L (d.filter (λy=>decide (y≠x)))/\(Instr.entry (Pn r)).run P (ChangeMaps.setBlock f r o)=.ok (.tuple #[AU x,v]) (ChangeMaps.setBlock f r o):=by
 obtain⟨es,a,since,seen,c0,G,D,p,h4,l,U,h7,h8,n⟩:=h.at_;rcases run_next_at (P:=P) w ty r b since c0 seen es a l G U h7 with⟨h0,B⟩|⟨e,I,f,N,B⟩
 .left;refine⟨?_,B⟩;have:(leftOf es seen).toList.length=0:=qC;rw[Y9.1 this]at n;cases d with
  |nil=>rfl
  |cons x t=>simp at n
 right;have m:e∈es.toList:=by
  have:=I;simp only[leftOf,Wu,yg]at this;exact this.1
 have W:e.key∈d.map AU:=by rw[<-n];exact yT I
 obtain⟨x,hx,O⟩:=yz.1 W;have hL:(e.key,e.val)∈L.map (λx=>(AU x.1,x.2)):=by
  rw[<-show es.toList.map (λe=>(e.key,e.val))=L.map (λx=>(AU x.1,x.2)) from D];exact yz.2 ⟨e,m,rfl⟩
 obtain⟨y,hy,s⟩:=yz.1 hL;simp only[YW]at s;have aq:y.1=x:=ME (s.1.j O.ai);have ar:r≠b:=λC=>by rw[C,G]at l;simp at l
 have u:f.heap=w.heap:=by rcases N with rfl|rfl<;>rfl
 have au:r<w.heap.size:=by
  have:=l;rw[ym]at this;exact this.1
 have M:(ChangeMaps.setBlock f r (.mapIter (some b) since (seen.push e.born) a)).heap[b]?=some (.map es a):=by
  simp only[ChangeMaps.setBlock,u];rw[Wh ar];exact G
 have J:(ChangeMaps.setBlock f r (.mapIter (some b) since (seen.push e.born) a)).heap[r]?=some (.mapIter (some b) since (seen.push e.born) a):=by
  simp only[ChangeMaps.setBlock,u];rw[Wk au]
 have am:(es.toList.map (·.key)).Nodup:=by
  have E:es.toList.map (·.key)=(L.map Prod.fst).map AU:=by
   have:=congrArg (List.map Prod.fst) (show es.toList.map (λe=>(e.key,e.val))=L.map (λx=>(AU x.1,x.2)) from D);rw[Yp,Yp]at this;rw[Yp];exact this
  rw[E];exact Xm (λ_ _ h=>ME h) h.nd
 have Z:∀z∈es.toList,(z.born=e.born↔z.key=e.key):=λz Y=>
  ⟨λq=>by rw[Oz p Y m q],λq=>by rw[Oz am Y m q]⟩
 refine⟨x,e.val,_,f,hx,by rw[<-aq,<-s.2];exact hy,N,by rw[O];exact B,⟨⟨es,a,since,seen.push e.born,a,M,D,p,h4,J,U,qd,yX _,?_⟩,h.nd,?_⟩,?_⟩
 .have E:(leftOf es (seen.push e.born)).toList=(leftOf es seen).toList.filter (λz=>!(z.born==e.born)):=by
   simp only[leftOf,Wu,YB];refine Y0 λz Y=>?_;rw[Array.contains_push];cases seen.contains z.born<;>cases z.born==e.born<;>rfl
  rw[E];have i:∀{A:List MapEntry}{T:List Kt},(∀z∈A,z∈es.toList)->A.map (·.key)=T.map AU->(A.filter (λz=>!(z.born==e.born))).map (·.key)=(T.filter (λy=>decide (y≠x))).map AU:=by
   intro A
   induction A with
   |nil=>
    intro T _ i;cases T with
    |nil=>rfl
    |cons t T=>simp at i
   |cons z A ih=>
    intro T K i;cases T with
    |nil=>simp at i
    |cons t T=>
     simp only[yn,Yh]at i;have R:=ih (λy hy=>K y J_) i.2;have Y:=Z z (K z qe);by_cases q:z.born=e.born
     .have:t=x:=ME (i.1.ai.j ((Y.1 q).j O.ai));rw[yN (by simp[q]),yN (by simp[this])];exact R
     have:t≠x:=λk=>q (Y.2 (by rw[i.1,k,O]));rw[yL (by simp[q]),yL (by simp[this]),yn,yn,R,i.1]
  exact i (λz Y=>by simp only[leftOf,Wu,yg]at Y;exact Y.1) n
 . intro y hy;exact AK.iter (h.ok y hy) (λg c t H=>by
   simp only[ChangeMaps.setBlock,u];rw[Wh (λC=>by rw[C,H]at l;simp at l)];exact H)
 rw[O];exact run_entry_at (P:=P) _ r b since seen es a e J M m p
def Bi.put{w b}(o):Bi (some b) w { w with heap:=w.heap.setIfInBounds b o }:=
 ⟨⟨rfl,rfl,rfl,qe,λg c=>qd⟩,λg _ a=>by
  show(w.heap.setIfInBounds b o)[g]?=w.heap[g]?
  rw[Wh (λe=>a H4)]⟩
def AK.aI{w w' b x}(h:AK w x)(d:Bi (some b) w w')(f:∀c t,w.heap[b]?≠some (.cells c t (0,0))):AK w' x:=
 h.iter λg c t a=>(d.block g (As a) (λe=>by injection e with e;subst e;exact f c t a)).j a
def AK.J{w w' x}(h:AK w x)(b:Bw w w'):AK w' x:=h.iter λg _ _ a=>(b.block g (As a)).j a
def Ag.lt{w b L}(h:Ag w b L):b<w.heap.size:=by
 obtain⟨es,a,c,_⟩:=h.at_;exact As c
def Ag.nc{w b L}(h:Ag w b L):∀c t,w.heap[b]?≠some (.cells c t (0,0)):=λc t e=>by
 obtain⟨es,a,d,_⟩:=h.at_;rw[d]at e;cases e
def Ag.J{w w' b L}(h:Ag w b L)(c:Bw w w'):Ag w' b L:=by
 obtain⟨es,a,e,d⟩:=h.at_;exact⟨⟨es,a,(c.block b h.lt).j e,d⟩,h.nd,λy f=>(h.ok y f).J c⟩
def Ag.aI{w w' b g L}(h:Ag w b L)(f:Bi (some g) w w')(d:g≠b)(i:∀c t,w.heap[g]?≠some (.cells c t (0,0))):Ag w' b L:=by
 obtain⟨es,a,l,k⟩:=h.at_;exact⟨⟨es,a,(f.block b h.lt (λe=>d Lu)).j l,k⟩,h.nd,λy m=>(h.ok y m).aI f i⟩
def Vn{x v L}(h:(L.map Prod.fst).Nodup):((BD x v L).map Prod.fst).Nodup:=by
 cases b:(Ce x L).isSome
 .unfold BD;rw[if_neg (by rw[b];decide),yJ,yn,YF,yP];refine⟨h,qe,λa O c d e=>?_⟩;rw[yv]at d;subst d;subst e;rw[MV.2 O]at b;cases b
 rw[uT b];exact h
def Uo{x v L y}(h:y∈BD x v L):y.1=x∨y∈L:=by
 unfold BD at h;split at h
 .obtain⟨z,O,e⟩:=yz.1 h;split at e
  .exact .inl (by rw[<-e])
  exact .inr (e▸O)
 rcases yr.1 h with h|h
 .exact .inr h
 rw[yv]at h;exact .inl (by rw[h])
def Vg{x L}(h:(L.map Prod.fst).Nodup):((Dm x L).map Prod.fst).Nodup:=h.sublist ((YH).map _)
section
variable {P : Program} {kt pt ft : TypeId} (H : TJ P kt pt ft) {w : World}
def UA{mt O:TypeId}(k:P.underlying mt=some (.map kt O)){b:Nat}{L:List (Kt × Value)}(h:Ag w b L){x:Kt}(f:AK w x)(v:Value):∃w',(Instr.mapUpdate mt (.map (some b)) (AU x) v).run P w=.ok () w'/\Ag w' b (BD x v L)/\Bi (some b) w w':=by
 obtain⟨o,j,es,a,rfl,l,i,g⟩:=tI H k h f v;have c:Bi (some b) w { w with heap:=w.heap.setIfInBounds b (.map es a) }:=Bi.put _;refine⟨_,j,⟨⟨es,a,?_,l,i,g⟩,Vn h.nd,λy d=>?_⟩,c⟩
 .exact Tk
 rcases Uo d with e|d
 .rw[e];exact f.aI c h.nc
 exact(h.ok y d).aI c h.nc
def RC{mt O ty t2:TypeId}(j:P.underlying mt=some (.map kt O)){b:Nat}{L:List (Kt × Value)}(h:Ag w b L){x:Kt}(e:AK w x):∃w',(Builtin.delete_ #[mt,t2] ty #[.map (some b),AU x]).run P w=.ok (.tuple #[]) w'/\Ag w' b (Dm x L)/\Bi (some b) w w':=by
 obtain⟨o,i,es,a,rfl,k,f,d⟩:=sV H (ty:=ty) (t2:=t2) j h e;have c:Bi (some b) w { w with heap:=w.heap.setIfInBounds b (.map es a) }:=Bi.put _;refine⟨_,i,⟨⟨es,a,?_,k,f,d⟩,Vg h.nd,λy g=>?_⟩,c⟩
 .exact Tk
 exact(h.ok y (yg.1 g).1).aI c h.nc
end
section
variable {C F : Type} {neg : C -> Bool} {lets : C -> List F -> F -> Bool}
def xp{α β:Type}{f g:α->List β}{l m:List α}(h:l.Perm m)(a:∀x∈l,(f x).Perm (g x)):(l.flatMap f).Perm (m.flatMap g):=by
 have b:(l.flatMap f).Perm (l.flatMap g):=by
  clear h
  induction l with
  |nil=>exact .refl _
  |cons x r O=>
   rw[yE,yE];exact(a x qe).append (O λy hy=>a y J_)
 exact b.j (h.flatMap_right g)
def k9{α β:Type}(f g:α->List β):∀l:List α,(l.flatMap (λx=>f x++g x)).Perm (l.flatMap f++l.flatMap g)
 |[]=>.refl _
 |x::r=>by
  simp only[yE]
  have O:=k9 f g r
  refine((Wc (f x++g x)).append O).j ?_
  rw[Yc,Yc]
  refine(Wc (f x)).append ?_
  rw[<-Yc,<-Yc]
  exact(KB).append (.refl _)
def V9{α β:Type}{f:α->List β}:∀{l:List α},l.Nodup->(∀x∈l,(f x).Nodup)->(∀x∈l,∀y∈l,x≠y->∀z,z∈f x->z ∉ f y)->(l.flatMap f).Nodup
 |[],_,_,_=>by simp
 |x::r,h,h1,h2=>by
  rw[yE,yP]
  rw[Yg]at h
  refine⟨h1 x (by simp),V9 h.2 (λy hy=>h1 y (by simp[hy])) (λa O b c Y=>h2 a (by simp[O]) b (by simp[c]) Y),?_⟩
  intro a O b c e
  subst e
  obtain⟨y,hy,d⟩:=Yk.1 c
  exact h2 x qe y J_ (λe=>h.1 (e▸hy)) a O d
end
section
variable {C F : Type} (neg : C -> Bool) (lets : C -> List F -> F -> Bool)
def E6(g:C->List F):List C->List F->List F->Prop
 |[],_,V=>V=[]
 |c::cs,T,V=>if neg c=true then(∀x∈g c,lets c T x=false)/\E6 g cs T V else∃x V',V=x::V'/\x∈g c/\lets c T x=true/\E6 g cs (T++[x]) V'
def Sd(g:C->List F)(f:F):Nat->List C->List F->List F->Prop
 |_,[],_,_=>False
 |0,c::cs,T,V=>if neg c=true then lets c T f=true/\(∀x∈g c,lets c T x=false)/\E6 neg lets g cs T V else∃V',V=f::V'/\lets c T f=true/\E6 neg lets g cs (T++[f]) V'
 |k+1,c::cs,T,V=>if neg c=true then(∀x∈g c,lets c T x=false)/\Sd g f k cs T V else∃x V',V=x::V'/\x∈g c/\lets c T x=true/\Sd g f k cs (T++[x]) V'
def JK(f:F):Nat->List C->List F->List F->Prop
 |_,[],_,_=>False
 |0,c::_,T,_=>neg c=true/\lets c T f=true
 |k+1,c::cs,T,V=>if neg c=true then JK f k cs T V else∃x V',V=x::V'/\JK f k cs (T++[x]) V'
variable {neg : C -> Bool} {lets : C -> List F -> F -> Bool}
def G9{g c cs T V}(h:neg c=true):E6 neg lets g (c::cs) T V↔(∀x∈g c,lets c T x=false)/\E6 neg lets g cs T V:=by rw[E6,if_pos h]
def Hc{g c cs T V}(h:neg c=false):E6 neg lets g (c::cs) T V↔∃x a,V=x::a/\x∈g c/\lets c T x=true/\E6 neg lets g cs (T++[x]) a:=by rw[E6,if_neg Qy]
def Po{g f c cs T V}(h:neg c=true):Sd neg lets g f 0 (c::cs) T V↔lets c T f=true/\(∀x∈g c,lets c T x=false)/\E6 neg lets g cs T V:=by rw[Sd,if_pos h]
def Pu{g f c cs T V}(h:neg c=false):Sd neg lets g f 0 (c::cs) T V↔∃a,V=f::a/\lets c T f=true/\E6 neg lets g cs (T++[f]) a:=by rw[Sd,if_neg Qy]
def Mz{g f k c cs T V}(h:neg c=true):Sd neg lets g f (k+1) (c::cs) T V↔(∀x∈g c,lets c T x=false)/\Sd neg lets g f k cs T V:=by rw[Sd,if_pos h]
def My{g f k c cs T V}(h:neg c=false):Sd neg lets g f (k+1) (c::cs) T V↔∃x a,V=x::a/\x∈g c/\lets c T x=true/\Sd neg lets g f k cs (T++[x]) a:=by rw[Sd,if_neg Qy]
def RF{f k c cs T V}(h:neg c=true):JK neg lets f (k+1) (c::cs) T V↔JK neg lets f k cs T V:=by rw[JK,if_pos h]
def Pz{f k c cs T V}(h:neg c=false):JK neg lets f (k+1) (c::cs) T V↔∃x a,V=x::a/\JK neg lets f k cs (T++[x]) a:=by rw[JK,if_neg Qy]
def Sd.cm{g f}:∀{cs:List C}{k:Nat}{T V:List F},(∀c,cs[k]?=some c->neg c=false->f∈g c)->Sd neg lets g f k cs T V->E6 neg lets g cs T V
 |[],0,_,_,_,h=>h.elim
 |[],_+1,_,_,_,h=>h.elim
 |c::cs,0,T,V,hf,h=>by
  cases a:neg c
  .obtain⟨i,rfl,e,b⟩:=(Pu a).1 h
   exact(Hc a).2 ⟨f,i,rfl,hf c rfl a,e,b⟩
  .obtain⟨_,e,b⟩:=(Po a).1 h
   exact(G9 a).2 ⟨e,b⟩
 |c::cs,k+1,T,V,hf,h=>by
  have O:∀d,cs[k]?=some d->neg d=false->f∈g d:=λd hd=>hf d qw
  cases a:neg c
  .obtain⟨x,i,rfl,e,b,j⟩:=(My a).1 h
   exact(Hc a).2 ⟨x,i,rfl,e,b,j.cm O⟩
  obtain⟨e,b⟩:=(Mz a).1 h
  exact(G9 a).2 ⟨e,b.cm O⟩
def E6.free{g f}:∀{cs:List C}{k:Nat}{T V:List F},E6 neg lets g cs T V->(∀c,cs[k]?=some c->neg c=true->f∈g c)->¬JK neg lets f k cs T V
 |[],0,_,_,_,_,h=>h.elim
 |[],_+1,_,_,_,_,h=>h.elim
 |c::cs,0,T,V,hs,hf,h=>by
  obtain⟨b,j⟩:=h
  have:=((G9 b).1 hs).1 f (hf c rfl b)
  rw[j]at this
  cases this
 |c::cs,k+1,T,V,hs,hf,h=>by
  have O:∀d,cs[k]?=some d->neg d=true->f∈g d:=λd hd=>hf d qw
  cases a:neg c
  .obtain⟨x,m,rfl,_,_,i⟩:=(Hc a).1 hs
   obtain⟨x',Y,e,l⟩:=(Pz a).1 h
   cases e
   exact i.free O l
  exact((G9 a).1 hs).2.free O ((RF a).1 h)
def iX{g t}{p:C->Bool}{f}:∀{cs:List C}{T V:List F},(∀c∈cs,∀x,x∈t c↔x∈g c∨(p c=true/\x=f))->(E6 neg lets t cs T V↔(E6 neg lets g cs T V/\∀k c,cs[k]?=some c->neg c=true->p c=true->¬JK neg lets f k cs T V)∨∃k c,cs[k]?=some c/\neg c=false/\p c=true/\Sd neg lets t f k cs T V)
 |[],T,V,_=>by simp[E6]
 |c::cs,T,V,hg=>by
  have Y:=λT V=>iX (cs:=cs) (T:=T) (V:=V) (λd hd=>hg d I1)
  have s:=hg c qe
  cases a:neg c
  .rw[Hc a]
   constructor
   .rintro⟨x,o,rfl,m,hl,j⟩
    by_cases u:x∈g c
    .rcases(Y _ _).1 j with⟨b,i⟩|⟨k,d,hd,b,i,r⟩
     .refine .inl ⟨(Hc a).2 ⟨x,o,rfl,u,hl,b⟩,λk d hd l n q=>?_⟩
      cases k with
      |zero=>
       cases hd
       rw[a]at l
       cases l
      |succ k=>
       obtain⟨x',w,e,q⟩:=(Pz a).1 q
       cases e
       exact i k d qw l n q
     exact .inr ⟨k+1,d,qw,b,i,(My a).2 ⟨x,o,rfl,m,hl,r⟩⟩
    rcases(s x).1 m with h|⟨n,rfl⟩
    .exact absurd h u
    exact .inr ⟨0,c,rfl,a,n,(Pu a).2 ⟨o,rfl,hl,j⟩⟩
   rintro(⟨b,i⟩|⟨k,d,hd,b,i,r⟩)
   .obtain⟨x,o,rfl,m,hl,j⟩:=(Hc a).1 b
    exact⟨x,o,rfl,(s x).2 (.inl m),hl,(Y _ _).2 (.inl ⟨j,λk d hd l n q=>i (k+1) d qw l n ((Pz a).2 ⟨x,o,rfl,q⟩)⟩)⟩
   cases k with
   |zero=>
    cases hd
    obtain⟨o,rfl,hl,j⟩:=(Pu a).1 r
    exact⟨f,o,rfl,(s f).2 (.inr ⟨i,rfl⟩),hl,j⟩
   |succ k=>
    obtain⟨x,o,rfl,m,hl,j⟩:=(My a).1 r
    exact⟨x,o,rfl,m,hl,(Y _ _).2 (.inr ⟨k,d,qw,b,i,j⟩)⟩
  rw[G9 a]
  constructor
  .rintro⟨l,j⟩
   have v:∀x∈g c,lets c T x=false:=λx m=>l x ((s x).2 (.inl m))
   rcases(Y _ _).1 j with⟨b,i⟩|⟨k,d,hd,b,i,r⟩
   .refine .inl ⟨(G9 a).2 ⟨v,b⟩,λk d hd O n q=>?_⟩
    cases k with
    |zero=>
     cases hd
     have:=l f ((s f).2 (.inr ⟨n,rfl⟩))
     rw[q.2]at this
     cases this
    |succ k=>exact i k d qw O n ((RF a).1 q)
   exact .inr ⟨k+1,d,qw,b,i,(Mz a).2 ⟨l,r⟩⟩
  rintro(⟨b,i⟩|⟨k,d,hd,b,i,r⟩)
  .obtain⟨l,j⟩:=(G9 a).1 b
   refine⟨λx m=>?_,(Y _ _).2 (.inl ⟨j,λk d hd O n q=>i (k+1) d qw O n ((RF a).2 q)⟩)⟩
   rcases(s x).1 m with m|⟨n,rfl⟩
   .exact l x m
   .cases hl:lets c T x
    .rfl
    .exact absurd ⟨a,hl⟩ (i 0 c rfl a n)
  cases k with
  |zero=>
   cases hd
   rw[a]at b
   cases b
  |succ k=>
   obtain⟨l,j⟩:=(Mz a).1 r
   exact⟨l,(Y _ _).2 (.inr ⟨k,d,qw,b,i,j⟩)⟩
def iT{g r}{p:C->Bool}{f}:∀{cs:List C}{T V:List F},(∀c∈cs,∀x,x∈r c↔x∈g c/\x≠f)->(∀c∈cs,f∈g c->p c=true)->(E6 neg lets r cs T V↔(E6 neg lets g cs T V/\f ∉ V)∨∃k c,cs[k]?=some c/\neg c=true/\p c=true/\Sd neg lets r f k cs T V)
 |[],T,V,_,_=>by
  simp only[E6]
  constructor
  .rintro rfl
   exact .inl ⟨rfl,by simp⟩
  .rintro(⟨h,_⟩|⟨k,c,h,_⟩)
   .exact h
   .simp at h
 |c::cs,T,V,hg,hp=>by
  have O:=λT V=>iT (cs:=cs) (T:=T) (V:=V) (λd hd=>hg d I1) (λd hd=>hp d I1)
  have Y:=hg c qe
  cases j:neg c
  .rw[Hc j]
   constructor
   .rintro⟨x,o,rfl,l,hl,i⟩
    obtain⟨t,u⟩:=(Y x).1 l
    rcases(O _ _).1 i with⟨b,a⟩|⟨k,d,hd,b,a,n⟩
    .exact .inl ⟨(Hc j).2 ⟨x,o,rfl,t,hl,b⟩,by simp[a,K7 u]⟩
    exact .inr ⟨k+1,d,qw,b,a,(My j).2 ⟨x,o,rfl,l,hl,n⟩⟩
   rintro(⟨b,a⟩|⟨k,d,hd,b,a,n⟩)
   .obtain⟨x,o,rfl,l,hl,i⟩:=(Hc j).1 b
    simp only[yO,not_or]at a
    exact⟨x,o,rfl,(Y x).2 ⟨l,λe=>a.1 e.ai⟩,hl,(O _ _).2 (.inl ⟨i,a.2⟩)⟩
   cases k with
   |zero=>
    cases hd
    rw[j]at b
    cases b
   |succ k=>
    obtain⟨x,o,rfl,l,hl,i⟩:=(My j).1 n
    exact⟨x,o,rfl,l,hl,(O _ _).2 (.inr ⟨k,d,qw,b,a,i⟩)⟩
  rw[G9 j]
  constructor
  .rintro⟨m,i⟩
   by_cases q:f∈g c/\lets c T f=true
   .exact .inr ⟨0,c,rfl,j,hp c qe q.1,(Po j).2 ⟨q.2,m,i⟩⟩
   have s:∀x∈g c,lets c T x=false:=λx l=>by
    cases hl:lets c T x
    .rfl
    by_cases e:x=f
    .subst e
     exact absurd ⟨l,hl⟩ q
    have:=m x ((Y x).2 ⟨l,e⟩)
    rw[hl]at this
    cases this
   rcases(O _ _).1 i with⟨b,a⟩|⟨k,d,hd,b,a,n⟩
   .exact .inl ⟨(G9 j).2 ⟨s,b⟩,a⟩
   exact .inr ⟨k+1,d,qw,b,a,(Mz j).2 ⟨m,n⟩⟩
  rintro(⟨b,a⟩|⟨k,d,hd,b,a,n⟩)
  .obtain⟨m,i⟩:=(G9 j).1 b
   exact⟨λx l=>m x ((Y x).1 l).1,(O _ _).2 (.inl ⟨i,a⟩)⟩
  cases k with
  |zero=>
   obtain⟨_,m,i⟩:=(Po j).1 n
   exact⟨m,i⟩
  |succ k=>
   obtain⟨m,i⟩:=(Mz j).1 n
   exact⟨m,(O _ _).2 (.inr ⟨k,d,qw,b,a,i⟩)⟩
end
def ko{e}:∀{l:List MapEntry}{i:Nat},l[i]?=some e->(l.map (·.born)).Nodup->l.eraseIdx i=l.filter (λz=>!(z.born==e.born))
 |[],i,h,_=>by simp at h
 |z::r,0,h,hn=>by
  simp at h
  subst h
  rw[yn,Yg]at hn
  rw[List.eraseIdx_cons_zero,yN (by simp)]
  refine(Yv.2 λy a=>?_).ai
  simp only[WI,beq_eq_false_iff_ne,ne_eq]
  exactλq=>hn.1 (q▸yT a)
 |z::r,i+1,h,hn=>by
  have O:r[i]?=some e:=qq
  rw[yn,Yg]at hn
  rw[Wp,ko O hn.2,yL]
  simp only[WI,beq_eq_false_iff_ne,ne_eq]
  exactλq=>hn.1 (q▸yT (yd O))
def kZ{es:List MapEntry}{e:MapEntry}{x}(b:∀z∈es,(z.born=e.born↔z.key=e.key))(O:AU x=e.key):∀{A:List MapEntry}{T:List Kt},(∀z∈A,z∈es)->A.map (·.key)=T.map AU->(A.filter (λz=>!(z.born==e.born))).map (·.key)=(T.filter (λy=>decide (y≠x))).map AU
 |[],[],_,_=>rfl
 |[],_::_,_,h=>by simp at h
 |_::_,[],_,h=>by simp at h
 |z::A,t::T,hA,hT=>by
  simp only[yn,Yh]at hT
  have Y:=kZ b O (λy hy=>hA y J_) hT.2
  have a:=b z (hA z qe)
  by_cases q:z.born=e.born
  .have:t=x:=ME (hT.1.ai.j ((a.1 q).j O.ai))
   rw[yN (by simp[q]),yN (by simp[this])]
   exact Y
  have:t≠x:=λk=>q (a.2 (by rw[hT.1,k,O]))
  rw[yL (by simp[q]),yL (by simp[this]),yn,yn,Y,hT.1]
def A6.sub{w b r L a}(h:A6 w b r L a):∀y∈a,y∈L.map Prod.fst:=λy k=>by
 obtain⟨es,c,since,seen,p,s,f,o,A,q,t,v,u,n⟩:=h.at_;have m:AU y∈(leftOf es seen).toList.map (·.key):=by rw[n];exact yT k
 obtain⟨e,d,Y⟩:=yz.1 m;have i:e∈es.toList:=by
  simp only[leftOf,Wu,yg]at d;exact d.1
 have l:(e.key,e.val)∈L.map (λx=>(AU x.1,x.2)):=by
  rw[<-show es.toList.map (λe=>(e.key,e.val))=L.map (λx=>(AU x.1,x.2)) from f];exact yz.2 ⟨e,i,rfl⟩
 obtain⟨z,g,O⟩:=yz.1 l;simp only[YW]at O;rw[ME (Y.ai.j O.1.ai)];exact yT g
section
variable {P : Program} {kt pt ft : TypeId} (H : TJ P kt pt ft) {w : World}
def sJ{mt et ty t2:TypeId}(hm:P.underlying mt=some (.map kt et)){b:Nat}{L:List (Kt × Value)}(h:Ag w b L){x:Kt}(hx:AK w x):∃w',(Builtin.delete_ #[mt,t2] ty #[.map (some b),AU x]).run P w=.ok (.tuple #[]) w'/\Ag w' b (Dm x L)/\Bi (some b) w w'/\∀r a,A6 w b r L a->A6 w' b r (Dm x L) (a.filter (λy=>decide (y≠x))):=by
 obtain⟨es,c,hb,he,m,T⟩:=h.at_;have hf:=PA H hx he h.ok;have aq:(es.toList.map (·.key)).Nodup:=by
  have A:es.toList.map (·.key)=(L.map Prod.fst).map AU:=by
   exact nX
  rw[A];exact Xm (λ_ _ h=>ME h) h.nd
 have D:∀(O:Array MapEntry),(Builtin.delete_ #[mt,t2] ty #[.map (some b),AU x]).run P w=.ok (.tuple #[]) { w with heap:=w.heap.setIfInBounds b (.map O c) }->ED O.toList (Dm x L)->(O.toList.map (·.born)).Nodup->(∀e∈O.toList,e∈es.toList)->(∀(seen:Array Nat)(a:List Kt),(leftOf es seen).toList.map (·.key)=a.map AU->(∀y∈a,y∈L.map Prod.fst)->(leftOf O seen).toList.map (·.key)=(a.filter (λy=>decide (y≠x))).map AU)->∃w',(Builtin.delete_ #[mt,t2] ty #[.map (some b),AU x]).run P w=.ok (.tuple #[]) w'/\Ag w' b (Dm x L)/\Bi (some b) w w'/\∀r a,A6 w b r L a->A6 w' b r (Dm x L) (a.filter (λy=>decide (y≠x))):=by
  intro O hr j K s h4;have I:Bi (some b) w { w with heap:=w.heap.setIfInBounds b (.map O c) }:=Bi.put _;have l:({ w with heap:=w.heap.setIfInBounds b (.map O c) }:World).heap[b]?=some (.map O c):=by
   exact Tk
  have g:∀y∈Dm x L,AK { w with heap:=w.heap.setIfInBounds b (.map O c) } y.1:=λy t=>(h.ok y (yg.1 t).1).aI I h.nc;refine⟨_,hr,⟨⟨O,c,l,j,K,λe Y=>T e (s e Y)⟩,Vg h.nd,g⟩,I,λr a R=>?_⟩;obtain⟨ax,ao,since,seen,c0,G,g2,g3,g4,B,Z,g7,W,U⟩:=R.at_;rw[hb]at G;cases G;have av:r≠b:=λe'=>by rw[e',hb]at B;simp at B
  refine⟨⟨O,c,since,seen,c0,l,j,K,λe Y=>T e (s e Y),?_,λe Y=>Z e (s e Y),g7,W,h4 seen a U R.sub⟩,Vg h.nd,g⟩;show(w.heap.setIfInBounds b _)[r]?=_;rw[Wh (K7 av)];exact B
 cases d:Da x L 0 with
 |none=>
  rw[d]at hf;refine D es qF (by rw[iK (Vq d)];exact he) m (λ_ h=>h) (λseen a C hs=>?_);rw[C];have:a.filter (λy=>decide (y≠x))=a:=Yv.2 λy t=>by
   simp only[ne_eq,decide_eq_true_eq];rintro rfl;have M:=PB y L 0;rw[d]at M;have j:=MV.2 (hs y t);rw[<-M]at j;cases j
  rw[this]
 |some p=>
  obtain⟨i,u⟩:=p;rw[d]at hf;obtain⟨k,E,N⟩:=PT d;rw[Yt]at E;subst E;obtain⟨o,n,au,aw⟩:=Rw he N;have J:i<es.size:=by have:=(yf.1 n).1;simpa using this
  have v:(es.eraseIdxIfInBounds i).toList=es.toList.filter (λz=>!(z.born==o.born)):=by
   rw[Array.eraseIdxIfInBounds,dif_pos J,WC];exact ko n m
  have ar:∀z∈es.toList,(z.born=o.born↔z.key=o.key):=λz f=>
   ⟨λq=>by rw[Oz m f (yd n) q],λq=>by rw[Oz aq f (yd n) q]⟩
  refine D (es.eraseIdxIfInBounds i) qF ?_ ?_ (λe Y=>?_) (λseen a C _=>?_)
  .rw[<-VM h.nd N];have Y:es.toList.map (λe=>(e.key,e.val))=L.map (λx=>(AU x.1,x.2)):=he;show List.map _ _=List.map _ _;rw[Array.eraseIdxIfInBounds,dif_pos J,WC,Wq,Wq,Y]
  .rw[v];exact m.sublist ((YH).map _)
  .rw[v]at Y;exact(yg.1 Y).1
  have A:(leftOf (es.eraseIdxIfInBounds i) seen).toList=(leftOf es seen).toList.filter (λz=>!(z.born==o.born)):=by
   simp only[leftOf,Wu];rw[v,YB,YB];refine Y0 λz _=>?_;rw[Bool.and_comm]
  rw[A];exact kZ ar au.ai (λz f=>by simp only[leftOf,Wu,yg]at f;exact f.1) C
end
def zkf{l n P O Q}(g:¬LetsOut Q)(hd:∀(i:Nat)(o:Oper),O[i]?=some o->∀c,o.op≠.defer c) :
  ∀(is:List Nat)(a:Act)(w:World),wpOps P O Q is a w->wpOpsIn (Fence.wide.inRound l) n P O Q is a w:=by
 intro is
 induction is with
 |nil=>intro a w h;exact h
 |cons i rest ih=>
  intro a w h;unfold wpOps at h;unfold wpOpsIn;cases d:O[i]? with
  |none=>
   rw[d]at h;exact ih a w h
  |some o=>
   rw[d]at h;simp only at h⊢;split
   .rename_i f;rw[if_pos f]at h;have h:o.wp P a w (wpOps P O Q rest) Q:=h.resolve_right (λj=>g j.2);refine⟨λ_ _=>trivial,?_⟩;rw[Oper.semAt_plain _ _ _ (hd i o d)];unfold Oper.wp at h;generalize (execOp a.eval o).run P w=r at h⊢;cases r with
    |ok x w'=>
     cases x<;>simp only[Oper.upon,Oper.uponIn]at h⊢<;>first
      |exact ih _ _ h
      |exact h.elim
      |(refine⟨λhx=>Tv,CallsIn.inRound l (callsIn_wide.2 (Calls.ac h ?_))⟩;intro e Y b;cases e;exact ih _ _ b;exact b;exact b)
      |exact⟨λhx=>Tv,λc cs _=>let ⟨v,Y,r,s⟩:=h c cs;⟨v,Y,ih _ _ r,stepsIn_wide.2 s⟩⟩
    |halt x w'=>cases x<;>simp only[Oper.upon,Oper.uponIn]at h⊢<;>exact h
   rename_i f;rw[if_neg f]at h;exact⟨λ_ _=>trivial,ih _ _ h⟩
def wK{l n P id O Q S a w}(b:¬LetsOut Q)(hd:∀(i:Nat)(o:Oper),O[i]?=some o->∀c,o.op≠.defer c)(d:P.follows .mixedOrders=true)(hS:S w.drew)(h:S w.drew->wpAnyH P .any O Q S O.size (Array.replicate O.size false) a w.drew):(Code.region id O true).wpIn (Fence.wide.inRound l) n P Q a w:=
 wpIn_region_draw λt=>by
  simp only[Region.schedule,d,Bool.true_or,if_true]
  exact zkf b hd _ _ _ (wpAny_sound O.size t _ a _ (wpAny_of_held _ _ _ _ (h hS)))
def VF{l n P id O Q S a w}(b:¬LetsOut (NoPanic Q))(hd:∀(i:Nat)(o:Oper),O[i]?=some o->∀c,o.op≠.defer c)(d:P.follows .mixedOrders=true)(hS:S w.drew)(h:S w.drew->wpAnyH P .any O (NoPanic Q) S O.size (Array.replicate O.size false) a w.drew):(Code.region id O true).wpIn (Fence.wide.inRound l) n P Q a w:=
 wpIn_mono (wK b hd d hS h) (λ_ _ _ h=>NoPanic.imp _ _ _ h)
def dg(q:Int):ByteArray:=strOfNums [48+q%10]
def uK(q):(dg q).size=1:=by
 simp[dg,strOfNums];rfl
def Lz:Nat->Int->ByteArray->ByteArray
 |0,_,t=>t
 |f+1,q,t=>if 0<q then Lz f (q/10) (dg q++t) else t
def vF(f q t)(h:¬0<q):Lz f q t=t:=by
 cases f with
 |zero=>rfl
 |succ f=>simp[Lz,h]
def LP(k:Int):ByteArray:=⟨#[109]⟩++Lz 20 k ⟨#[]⟩
def xj(q)(w:World):(convert 22 9 (.slice (some ⟨w.heap.size,0,none⟩) 1 1)).run prog (w.alloc (.cells #[.int .u8 (48+q%10)] 5))=.ok (.string (dg q)) (w.alloc (.cells #[.int .u8 (48+q%10)] 5)):=
 run_convert_bytes_arg (P:=prog) _ 22 5 underlying22 underlying5 w.heap.size 0 1 1 [48+q%10] rfl (λi a=>by
  obtain rfl:i=0:=qd
  simp[go_sem]) 9 underlying9
def MZ(k w)(x:0<k)(m:k<=100000000) :
  Ca 73 #[I6 k] w λe w'=>e=.returned (.string (LP k))/\Bw w w':=by
 go_enter func73,ntmps73;go_wp2
 go_loopw [0,3] (λi s wr=>∃(q:Int)(t:ByteArray)(f:Nat),0<=q/\q<=k/\q<10^f/\f<=20/\i=I6 q/\s=.string t/\t.size+f=20/\Lz 20 k ⟨#[]⟩=Lz f q t/\Bw w wr) (λi _ _=>(intOf i).toNat)
 case atStart=>exact⟨k,_,20,qd,qd,qd,qd,rfl,rfl,rfl,rfl,Aj⟩
 case round=>
  obtain⟨q,t,f,n,l,O,r,rfl,rfl,d,hd,b⟩:=hrel;have c:Hid (Lz 20 k ⟨#[]⟩=Lz f q t):=hd;have Y:Hid (q<10^f):=O;have g:Hid (t.size+f=20):=d;have v:t.size<=20:=qd;clear hd O d;by_cases a:0<q
  .have u:=xj q wr;have y:=uK q;go_wp2;go_roundw
   case rel=>
    cases f with
    |zero=>
     have:=Y.o;simp at this;omega
    |succ f=>
     have j:=Y.o;have p:=g.o;refine⟨q/10,_,f,qd,qd,?_,qd,rfl,rfl,?_,?_,b.alloc b.size _⟩
     .rw[Int.pow_succ]at j;omega
     .rw[ByteArray.size_append'];omega
     .rw[c.o,Lz,if_pos a]
   case measure=>simp[intOf];omega
  go_wp2;go_ret;refine⟨?_,b⟩;unfold LP;rw[c.o,vF _ _ _ qd];rfl
end Go.Proofs.YtikojfajahnhgaaGreat
