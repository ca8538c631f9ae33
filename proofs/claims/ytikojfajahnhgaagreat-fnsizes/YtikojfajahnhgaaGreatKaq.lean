import Derived.Test.YtikojfajahnhgaaGreatKap
import Derived.Test.YtikojfajahnhgaaGreatKan
import Derived.Test.YtikojfajahnhgaaGreatKaj
set_option linter.all false
set_option maxHeartbeats 1600000
set_option maxRecDepth 100000
namespace Go.Proofs.YtikojfajahnhgaaGreat
attribute [local simp] At I6 Pn mzI
attribute [local go_sem] At I6 Pn
open Go.RowKit Go.Proofs.Tryz
def nQ{α}(f):∀(l:List α)(k:Nat),Dc f l k=none->∀x∈l,f x=true
 |[],_,_,x,a=>by simp at a
 |y::r,k,h,x,a=>by
  unfold Dc at h
  cases b:f y
  .rw[b]at h
   simp at h
  rw[b]at h
  simp only[if_true]at h
  rcases yG.1 a with rfl|a
  .exact b
  exact nQ f r (k+1) h x a
def lf{r}(h:Am r=none):r.v.length<=6/\∀p∈r.v,C_ p=true:=by
 unfold Am at h;split at h
 .rename_i a;simp only[Id,yi,decide_eq_true_eq]at a;refine⟨a.2.1,?_⟩;cases b:Dc C_ r.v 1 with
  |some i=>rw[b]at h;cases h
  |none=>exact nQ C_ r.v 1 b
 cases h
def zob{pre r}(h:(A_ pre r).1=0):Am r=none/\Ad r.v<=3:=by
 unfold A_ at h;cases a:Am r with
 |some i=>rw[a]at h;simp at h
 |none=>
  refine⟨rfl,?_⟩;rw[a]at h;simp only at h;split at h
  .simp at h
  split at h
  .rename_i b;exact b.2
  simp at h
def ll:∀(l pre:List Ru)(k:Nat),(EJ pre l k).1=0->∀r∈l,Am r=none/\Ad r.v<=3
 |[],_,_,_,r,a=>by simp at a
 |q::s,pre,k,h,r,a=>by
  unfold EJ at h
  split at h
  .rename_i O
   rcases yG.1 a with rfl|a
   .exact zob O
   exact ll s _ _ h r a
  rename_i O
  exact absurd h O
def Qa{rs}(h:(A8 rs).1=0):rs.length<=16/\∀r∈rs,Am r=none/\Ad r.v<=3:=by
 unfold A8 at h;split at h
 .rename_i hl;exact⟨hl,ll rs [] 0 h⟩
 simp at h
def Mc{rs}(h:(A8 rs).1=0){r}(f:r∈rs):r.v.length<=6/\(∀p∈r.v,p.e.length<=6)/\Ad r.v<=3:=by
 obtain⟨d,a⟩:=(Qa h).2 r f;obtain⟨c,b⟩:=lf d;refine⟨c,λp g=>?_,a⟩;have:=b p g;simp only[C_,yi,decide_eq_true_eq]at this;exact this.2.1
section
attribute [local go_sem ↓] wp_at_zero wp_at_succ
def o8{P:Prop}(h:P:=by go_wp2;go_ret;exact⟨AL (by rw[G.o,decide_eq_false (by omega)];rfl),An⟩):P:=h
def rJ{P:Prop}(h:P:=by
 obtain⟨G⟩:Nonempty (Hid (C4 vs=(decide (vs.length<=6)&&vs.all Bf))):=⟨rfl⟩
 by_cases h6:6<vs.length
 .have aj:(6:Int)<(vs.length:Int):=by omega
  first
   | (have _:=tP
      go_enter func117,ntmps117)
   |(go_enter func214,ntmps214)
  exact o8
 .have aj:¬(6:Int)<(vs.length:Int):=by omega
  first
   | (have _:=tP
      go_enter func117,ntmps117)
   |(go_enter func214,ntmps214)
  go_wp2
  go_loopw [10] (λi wr=>∃(k:Nat),k<=vs.length/\i=I6 k/\C4 vs=(vs.drop k).all Bf/\Bw w wr) (mz vs.length)
  case atStart=>exact⟨0,by omega,rfl,by rw[G.o,decide_eq_true (by omega)];rfl,An⟩
  case round=>
   obtain⟨k,hk,rfl,hG,hb⟩:=hrel;have HG:Hid (C4 vs=(vs.drop k).all Bf):=hG;clear hG;by_cases ai:k<vs.length
   .obtain⟨v,O⟩:=Ba ai;obtain⟨b,o,rfl,c0,c1,c2⟩:=hv.d hb k v O;have ah:v.J.size<=maxLen:=hs v (yd O);have HD:Hid (vs.drop k=v::vs.drop (k+1)):=by
     obtain⟨h,rfl⟩:=ye.1 O;exact Wk h
    cases af:Bf v
    first
     | (have _:=tP
        all_goals
          go_wp2_with (go_at_call 176;refine(Tz v _ ah).rtn λw' hb'=>?_))
     | (all_goals
          go_wp2_with (go_at_call 256;refine(Tq v _ ah).rtn λw' hb'=>?_))
    .go_ret;exact⟨AL (by rw[HG.o,HD.o,YP,af];rfl),hb.c ((Aj.thn hb').j hb.size)⟩
    go_roundw
    case rel=>exact⟨k+1,by omega,by go_num,by rw[HG.o,HD.o,YP,af];rfl,hb.c ((Aj.thn hb').j hb.size)⟩
    case measure=>(simp;omega)
   exact QR
 ):P:=h
def OM(a c vs w)(hv:Bt w a vs)(hl:vs.length<=1048576)(hs:∀v∈vs,v.J.size<=maxLen) :
  Ca 117 #[.slice a vs.length c] w λe w'=>
   e=.returned (.bool (C4 vs))/\Bw w w':=by
 have tP:=trivial;exact rJ
end
def AJ(f:F):Prop:=f.z.size<=maxLen/\f.s.length<=1048576/\∀v∈f.s,v.J.size<=maxLen
def rK{P:Prop}(h:P:=by
 obtain⟨G⟩:Nonempty (Hid (C8 fs=(decide (fs.length<=40)&&BN 0 fs))):=⟨rfl⟩
 by_cases h6:40<fs.length
 .have am:(40:Int)<(fs.length:Int):=by omega
  first
   | (have _:=tP
      go_enter func124,ntmps124)
   |(go_enter func107,ntmps107)
  exact o8
 .have am:¬(40:Int)<(fs.length:Int):=by omega
  first
   | (have _:=tP
      go_enter func124,ntmps124)
   |(go_enter func107,ntmps107)
  go_wp2
  first
   | (have _:=tP
      go_loopw [3,11] (λl i wr=>∃(k:Nat)(last:Int),k<=fs.length/\i=I6 k/\l=I6 last/\C8 fs=BN last (fs.drop k)/\Bw w wr) (λ_ i _=>fs.length-(intOf i).toNat)
      case atStart=>exact⟨0,0,by omega,rfl,rfl,by rw[G.o,decide_eq_true (by omega)];rfl,An⟩)
   | (go_loopw [3,11] (λl i wr=>∃ (k:Nat) (last:Int),0<=last/\k<=fs.length/\i=I6 k/\l=I6 last/\C8 fs=BN last (fs.drop k)/\Bw w wr) (λ_ i _=>fs.length - (intOf i).toNat)
      case atStart=>exact⟨0,0,by omega,by omega,rfl,rfl,by rw[G.o,decide_eq_true (by omega)];rfl,An⟩)
  case round=>
   first
    | (have _:=tP
       obtain⟨k,last,hk,rfl,rfl,hG,hb⟩:=hrel)
    |(obtain⟨k,last,ao,hk,rfl,rfl,hG,hb⟩:=hrel)
   have HG:Hid (C8 fs=BN last (fs.drop k)):=hG;clear hG;by_cases ak:k<fs.length
   .obtain⟨f,aj⟩:=Ba ak;obtain⟨b,o,rfl,c0,c1,s,cs,c2,hsl⟩:=hv.d hb k f aj;obtain⟨hs1,ah,ai⟩:=hs f (yd aj);have HD:Hid (fs.drop k=f::fs.drop (k+1)):=CF aj;have HO:Hid (Hi last f=(decide (last<f.tag)&&(decide (f.tag<=1000000)&&(Aq f.z.data.toList&&C4 f.s)))):=rfl;have af:Hid (Hi last f=false->C8 fs=false):=λe=>by rw[HG.o,HD.o,BN,e];rfl
    have good:Hid (Hi last f=true->C8 fs=BN f.tag (fs.drop (k+1))):=λe=>by rw[HG.o,HD.o,BN,e];rfl
    by_cases h1:f.tag<=last
    .have O:Hid (C8 fs=false):=af.o (by rw[HO.o,decide_eq_false (by omega)];rfl);go_wp2;go_ret;exact⟨AL O.o.y,hb.thn Aj⟩
    first
     | (have _:=tP
        by_cases h2:1000000<f.tag)
     |(cases h3:Ps f)
    .first
      | (have _:=tP
         have O:Hid (C8 fs=false):=af.o (by rw[HO.o,decide_eq_false (p:=f.tag<=1000000) (by omega)];simp);go_wp2)
      | (have O:Hid (C8 fs=false):=af.o (by rw[HO.o,lm (by omega:1<=f.tag) h3,Wg])
         go_wp2_with (go_at_call 170;refine(mw f s cs _ (hsl.d Aj) hs1 ah ai).rtn λw1 hb'=>?_))
     go_ret
     first
      | (have _:=tP
         exact⟨AL O.o.y,hb.thn Aj⟩)
      |(exact⟨AL O.o.y,hb.c ((Aj.thn hb').j hb.size)⟩)
    first
     | (have _:=tP
        cases h3:Aq f.z.data.toList
        · have O:Hid (C8 fs=false):=af.o (by rw[HO.o,h3];simp)
          go_wp2_with (go_at_call 116;refine(He f.z _ hs1).j ?_;rintro e w' ⟨rfl,rfl⟩);go_ret;exact⟨AL O.o.y,hb.thn Aj⟩
        · cases h4:C4 f.s
          · have O:Hid (C8 fs=false):=af.o (by rw[HO.o,h4];simp)
            go_wp2_with (first|(go_at_call 116;refine(He f.z _ hs1).j ?_;rintro e w' ⟨rfl,rfl⟩)|(go_at_call 117;refine(OM s cs f.s _ (hsl.d Aj) ah ai).rtn λw1 hb'=>?_));go_ret;exact⟨AL O.o.y,hb.c ((Aj.thn hb').j hb.size)⟩
          · have O:Hid (C8 fs=BN f.tag (fs.drop (k+1))):=good.o (by rw[HO.o,h3,h4,decide_eq_true (by omega),decide_eq_true (by omega)];rfl)
            go_wp2_with (first|(go_at_call 116;refine(He f.z _ hs1).j ?_;rintro e w' ⟨rfl,rfl⟩)|(go_at_call 117;refine(OM s cs f.s _ (hsl.d Aj) ah ai).rtn λw1 hb'=>?_;obtain⟨hc,hf⟩:=Aw hb'));go_roundw
            case rel=>exact⟨k+1,f.tag,by omega,by go_num,rfl,O.o,hb.c ((Aj.thn hb').j hb.size)⟩
            case measure=>simp[intOf];omega)
     | (have O:Hid (C8 fs=BN f.tag (fs.drop (k+1))):=good.o (by rw[HO.o,lm (by omega:1<=f.tag) h3,decide_eq_true (by omega)];rfl)
        go_wp2_with (go_at_call 170;refine(mw f s cs _ (hsl.d Aj) hs1 ah ai).rtn λw1 hb'=>?_;obtain⟨hc,hf⟩:=Aw hb');go_roundw
        case rel=>exact⟨k+1,f.tag,by omega,by omega,by go_num,rfl,O.o,hb.c ((Aj.thn hb').j hb.size)⟩
        case measure=>simp[intOf];omega)
   exact QR
 ):P:=h
def X8(a c fs w)(hv:Bz w a fs)(hl:fs.length<=1048576)(hs:∀f∈fs,AJ f) :
  Ca 124 #[.slice a fs.length c] w λe w'=>
   e=.returned (.bool (C8 fs))/\Bw w w':=by
 have tP:=trivial;exact rK
def Qz(a c vs w)(hv:Bt w a vs)(hl:vs.length<=1048576)(hs:∀v∈vs,v.J.size<=maxLen) :
  Ca 214 #[.slice a vs.length c] w λe w'=>
   e=.returned (.bool (C4 vs))/\Bw w w':=by
 exact rJ
def mw(f a c w)(hv:Bt w a f.s)(q:f.z.size<=maxLen)(hl:f.s.length<=1048576)(p:∀v∈f.s,v.J.size<=maxLen) :
  Ca 170 #[.agg #[I6 f.tag,.string f.z,.slice a f.s.length c]] w λe w'=>
   e=.returned (.bool (Ps f))/\Bw w w':=by
 obtain⟨G⟩:Nonempty (Hid (Ps f=(decide (1<=f.tag)&&(decide (f.tag<=1000000)&&(Aq f.z.data.toList&&C4 f.s))))):=⟨rfl⟩
 by_cases n:1<=f.tag
 .by_cases m:f.tag<=1000000
  .have g:decide (1<=f.tag)=true:=decide_eq_true n;have b:decide (f.tag<=1000000)=true:=decide_eq_true m;cases l:Aq f.z.data.toList<;>cases k:C4 f.s
   all_goals
    go_enter func170,ntmps170;go_wp2_with (first|(go_at_call 197;refine(IM f.z _ q).j ?_;rintro e w' ⟨rfl,rfl⟩)|(go_at_call 214;refine(Qz a c f.s _ (hv.d Aj) hl p).rtn λw' i=>?_));go_ret
    first
    |exact⟨AL (by rw[G.o,g,b,l,k];rfl),Aj⟩
    |exact⟨AL (by rw[G.o,g,b,l,k];rfl),Aj.thn i⟩
  have b:decide (f.tag<=1000000)=false:=decide_eq_false m;go_enter func170,ntmps170;go_wp2;go_ret;exact⟨AL (by rw[G.o,b];simp),Aj⟩
 have g:decide (1<=f.tag)=false:=decide_eq_false n;go_enter func170,ntmps170;go_wp2;go_ret;exact⟨AL (by rw[G.o,g];rfl),Aj⟩
def Y_(a c fs w)(hv:Bz w a fs)(hl:fs.length<=1048576)(hs:∀f∈fs,AJ f) :
  Ca 107 #[.slice a fs.length c] w λe w'=>
   e=.returned (.bool (C8 fs))/\Bw w w':=by
 exact rK
abbrev Kt:=Option Addr × Option Addr × Option Addr
def AM(x:Kt):Value:=.agg #[.pointer x.1,.pointer x.2.1,.pointer x.2.2]
def MT{x y}(h:AM x=AM y):x=y:=by
 obtain⟨a,b,c⟩:=x;simp_all[AM,Kt]
def A5(w:World)(p:Option Addr):Prop:=∀a,p=some a->∃c,w.heap[a.block]?=some (.cells c 145 (0,0))
def AG(w:World)(x:Kt):Prop:=A5 w x.1/\A5 w x.2.1/\A5 w x.2.2
structure Ur(P:Program) (kt pt ft:TypeId):Prop where
 k:P.underlying kt=some (.array 3 pt)
 p:P.underlying pt=some (.pointer ft)
 sp:∀w:World,(sizeOf pt).run P w=.ok 1 w
 sf:∃n,n≠0/\∀w:World,(sizeOf ft).run P w=.ok n w
def Dh(x:Kt):List (Kt × Value)->Nat->Option (Nat × Value)
 |[],_=>none
 |e::es,i=>if x=e.1 then some (i,e.2) else Dh x es (i+1)
def EH(es:List MapEntry)(L:List (Kt × Value)):Prop:=es.map (λe=>(e.key,e.val))=L.map (λx=>(AM x.1,x.2))
def BV(x:Kt)(L:List (Kt × Value)):Option Value:=(L.find? (λy=>decide (y.1=x))).map Prod.snd
def BE(x:Kt)(v:Value)(L:List (Kt × Value)):List (Kt × Value):=if(BV x L).isSome then L.map (λy=>if y.1=x then(x,v) else y) else L++[(x,v)]
def Dx(x:Kt)(L:List (Kt × Value)):List (Kt × Value):=L.filter (λy=>decide (y.1≠x))
def PU(x):∀(L:List (Kt × Value))(i:Nat),(Dh x L i).map Prod.snd=BV x L
 |[],i=>rfl
 |y::r,i=>by
  have O:=PU x r (i+1)
  unfold Dh BV
  by_cases h:x=y.1
  .rw[if_pos h,List.find?_cons_of_pos (by simp[h])]
   rfl
  rw[if_neg h,Wd (by simpa usingλe=>h e.y)]
  exact O
def Qg{x}:∀{L:List (Kt × Value)}{i j:Nat}{v:Value},Dh x L i=some (j,v)->∃k,j=i+k/\L[k]?=some (x,v)
 |[],_,_,_,h=>by simp[Dh]at h
 |y::r,i,j,v,h=>by
  unfold Dh at h
  split at h
  .rename_i e
   simp only[YY,YO]at h
   exact⟨0,by omega,by rw[yv,<-h.2,e]⟩
  obtain⟨k,a,h2⟩:=Qg h
  exact⟨k+1,qd,qu⟩
def Xa{x}:∀{L:List (Kt × Value)}{i:Nat},Dh x L i=none->∀y∈L,y.1≠x
 |[],_,_,y,a=>by simp at a
 |z::r,i,h,y,a=>by
  unfold Dh at h
  split at h
  .cases h
  rename_i e
  rcases yG.1 a with rfl|a
  .exactλO=>e O.y
  exact Xa h y a
def Sk{x v u}:∀{L:List (Kt × Value)}{k:Nat},(L.map Prod.fst).Nodup->L[k]?=some (x,v)->L.set k (x,u)=L.map (λy=>if y.1=x then(x,u) else y)
 |[],k,_,h=>by simp at h
 |y::r,0,hn,h=>by
  simp only[yv,YY]at h
  subst h
  simp only[yq,y9]at hn
  rw[yB,yq,if_pos rfl]
  congr 1
  have:r.map (λy=>if y.1=x then(x,u) else y)=r.map id:=Ye λz O=>by
   rw[if_neg (λe:z.1=x=>hn.1 (by rw[<-e];exact yU O))]
   rfl
  rw[this,Kx]
 |y::r,k+1,hn,h=>by
  simp only[yw]at h
  simp only[yq,y9]at hn
  have a:y.1≠x:=λe=>hn.1 pj
  rw[yC,Sk hn.2 h,yq,if_neg a]
def zJ{x v L}(h:(BV x L).isSome=true):(BE x v L).map Prod.fst=L.map Prod.fst:=by
 rw[BE,if_pos h,Yv];refine Ye λy _=>?_;show(if y.1=x then(x,v) else y).1=y.1;split
 .rename_i e;exact e.y
 rfl
def Xd{x v}:∀{L:List (Kt × Value)}{k:Nat},(L.map Prod.fst).Nodup->L[k]?=some (x,v)->L.eraseIdx k=Dx x L
 |[],k,_,h=>by simp at h
 |y::r,0,hn,h=>by
  simp only[yv,YY]at h
  subst h
  simp only[yq,y9]at hn
  rw[K8,Dx,yJ (by simp)]
  refine(Yk.2 λz O=>?_).y
  simpa usingλe:z.1=x=>hn.1 (by rw[<-e];exact yU O)
 |y::r,k+1,hn,h=>by
  simp only[yw]at h
  simp only[yq,y9]at hn
  have hy:y.1≠x:=λe=>hn.1 pj
  rw[Wa,Xd hn.2 h,Dx,Dx,yD QW]
def jR{x L}(h:∀y∈L,y.1≠x):Dx x L=L:=Yk.2 λy a=>by simpa using h y a
def M7{x L}:(BV x L).isSome=true↔x∈L.map Prod.fst:=by simp[Kt,BV]
structure Ag(w:World) (b:Nat) (L:List (Kt × Value)):Prop where
 N:∃es clock,w.heap[b]?=some (.map es clock)/\EH es.toList L/\(es.toList.map (·.born)).Nodup/\∀e∈es.toList,e.born<clock
 nd:(L.map Prod.fst).Nodup
 ok:∀y∈L,AG w y.1
def gM{P w r es a}(b:w.heap[r]?=some (.map es a)):(getObj r).run P w=.ok (.map es a) w:=by simp[getObj,Sem.run,b]
def sM{P w r es a o}(b:w.heap[r]?=some (.map es a)):(setObj r o).run P w=.ok () { w with heap:=w.heap.setIfInBounds r o }:=by simp[setObj,Sem.run,b]
section
variable {P : Program} {kt pt ft : TypeId} (H : Ur P kt pt ft) {w : World}
def RV(d:Nat){p q:Option Addr}(k:A5 w p)(j:A5 w q):(Op.equalIn (d+1) pt (.pointer p) (.pointer q)).run P w=.ok (decide (p=q)) w:=by
 obtain⟨n,g,c⟩:=H.sf;cases p with
 |none=>cases q<;>simp[Op.equalIn,run_underlying H.p]
 |some a=>
  cases q with
  |none=>simp[Op.equalIn,run_underlying H.p]
  |some b=>
   by_cases e:a=b
   .subst e;simp[Op.equalIn,run_underlying H.p,c,run_sameAddr_same]
   obtain⟨ca,i⟩:=k a rfl;obtain⟨cb,f⟩:=j b rfl;simp[Op.equalIn,run_underlying H.p,c,g,run_sameAddr_other w e i f,e]
def OA(c:Array Value)(i:Nat)(v:Value)(h:c[i]?=some v):(part pt c i).run P w=.ok v w:=by
 simp[part,isAgg,run_underlying H.p,h]
def so{x y:Kt}(t:AG w x)(u:AG w y):(Op.equal kt (AM x) (AM y)).run P w=.ok (decide (x=y)) w:=by
 obtain⟨a,b,c⟩:=x;obtain⟨d,e,f⟩:=y;have g:=RV H 9998 t.1 u.1;have i:=RV H 9998 t.2.1 u.2.1;have l:=RV H 9998 t.2.2 u.2.2;unfold Op.equal Op.maxDepth AM;rw[Op.equalIn];simp only at g i l;have p:=λ(n m j:Value)=>OA H (w:=w) #[n,m,j] 0 n rfl;have v:=λ(n m j:Value)=>OA H (w:=w) #[n,m,j] 1 m rfl;have z:=λ(n m j:Value)=>OA H (w:=w) #[n,m,j] 2 j rfl;have r:List.range' 0 3=[0,1,2]:=rfl;simp only[Nat.reduceAdd]at g i l;by_cases q:a=d
 .rw[decide_eq_true q]at g;by_cases s:b=e
  .rw[decide_eq_true s]at i;by_cases o:c=f
   .rw[decide_eq_true o]at l;rw[decide_eq_true (show(a,b,c)=(d,e,f) by rw[q,s,o])];simp[run_underlying H.k,H.sp,r,p,v,z,g,i,l]
   rw[decide_eq_false o]at l;rw[decide_eq_false (λh=>o (by injection h with _ h;injection h))];simp[run_underlying H.k,H.sp,r,p,v,z,g,i,l]
  rw[decide_eq_false s]at i;rw[decide_eq_false (λh=>s (by injection h with _ h;injection h))];simp[run_underlying H.k,H.sp,r,p,v,g,i]
 rw[decide_eq_false q]at g;rw[decide_eq_false (λh=>q (by injection h))];simp[run_underlying H.k,H.sp,r,p,g]
def tw(O:Bool)(d:Nat)(p:Option Addr):(Instr.checkKey O (d+1) pt (.pointer p)).run P w=.ok () w:=by
 simp[Instr.checkKey,run_underlying H.p]
def Ma(O:Bool)(x:Kt):(Instr.checkKey O 10000 kt (AM x)).run P w=.ok () w:=by
 obtain⟨a,b,c⟩:=x;have i:=λ(f e d:Value)=>OA H (w:=w) #[f,e,d] 0 f rfl;have j:=λ(f e d:Value)=>OA H (w:=w) #[f,e,d] 1 e rfl;have g:=λ(f e d:Value)=>OA H (w:=w) #[f,e,d] 2 d rfl;have r:List.range' 0 3=[0,1,2]:=rfl;have k:=λp=>tw H (w:=w) O 9998 p;simp only[Nat.reduceAdd]at k;rw[show(10000:Nat)=9999+1 from rfl,Instr.checkKey];simp[run_underlying H.k,H.sp,AM,r,i,j,g,k]
def me{x:Kt}(a:AG w x):∀{es:List MapEntry}{L:List (Kt × Value)}(i:Nat),EH es L->(∀y∈L,AG w y.1)->(Instr.findAsking kt (AM x) es i).run P w=.ok (Dh x L i) w
 |[],L,i,he,_=>by
  cases L with
  |nil=>simp[Instr.findAsking,Dh]
  |cons y r=>simp[EH]at he
 |e::es,L,i,he,hL=>by
  cases L with
  |nil=>simp[EH]at he
  |cons y r=>
   simp only[EH,yq,Yu,YO]at he
   have ih:=me a (i+1) (show EH es r from he.2) (λz O=>hL z Mp)
   rw[Instr.findAsking,he.1.1,he.1.2]
   simp only[TJ,so H a (hL y qe),Ke]
   by_cases h:x=y.1
   .simp[h,Dh]
   simp[h,Dh,ih]
def zI(x){es L}(a:EH es L):Instr.findNow (.array 3 pt) (AM x) es 0=if es=[] then some none else none:=by
 cases es with
 |nil=>simp[Instr.findNow]
 |cons e es=>
  cases L with
  |nil=>simp[EH]at a
  |cons y r=>
   simp only[EH,yq,Yu,YO]at a;simp[Instr.findNow,Instr.sameNow]
def P7{x:Kt}(c:AG w x){es:List MapEntry}{L:List (Kt × Value)}(a:EH es L)(b:∀y∈L,AG w y.1):(Instr.findKey kt (AM x) es).run P w=.ok (Dh x L 0) w:=by
 unfold Instr.findKey;simp only[TJ,run_underlying H.k,Ke];rw[zI x a];cases es with
 |nil=>
  cases L with
  |nil=>simp[Dh]
  |cons y r=>simp[EH]at a
 |cons e es=>simpa using me H c 0 a b
def MW{mt i:TypeId}(f:P.underlying mt=some (.map kt i)){z:Value}(k:(zeroValue i).run P w=.ok z w){b:Nat}{L:List (Kt × Value)}(h:Ag w b L){x:Kt}(l:AG w x)(O:Bool):(Instr.lookup mt (.map (some b)) (AM x) O).run P w=.ok (if O=true then .tuple #[(BV x L).getD z,.bool (BV x L).isSome] else(BV x L).getD z) w:=by
 obtain⟨es,d,e,j,_⟩:=h.N;have a:=P7 H l j h.ok;have c:=PU x L 0;cases g:Dh x L 0 with
 |none=>
  rw[g]at a c;rw[<-c];cases O<;>simp[Instr.lookup,run_underlying f,gM e,Ma H,a,k]
 |some p=>
  rw[g]at a c;rw[<-c];cases O<;>simp[Instr.lookup,run_underlying f,gM e,Ma H,a]
def kq(x):Instr.sameBits 10000 (AM x) (AM x)=true:=by
 obtain⟨a,b,c⟩:=x;simp[AM,Instr.sameBits]
def uM{es L}(h:EH es L):es.length=L.length:=by
 have:=congrArg List.length h;simpa using this
def RX{es L}(h:EH es L){k:Nat}{x v}(b:L[k]?=some (x,v)):∃e,es[k]?=some e/\e.key=AM x/\e.val=v:=by
 have:=congrArg (·[k]?) h;simp only[yA,b,Y4]at this;cases a:es[k]? with
 |none=>rw[a]at this;simp at this
 |some e=>
  rw[a]at this;simp at this;exact⟨e,rfl,this.1,this.2⟩
def uO{mt R:TypeId}(A:P.underlying mt=some (.map kt R)){b:Nat}{L:List (Kt × Value)}(h:Ag w b L){x:Kt}(J:AG w x)(v:Value):∃o,(Instr.mapUpdate mt (.map (some b)) (AM x) v).run P w=.ok () { w with heap:=w.heap.setIfInBounds b o }/\∃es d,o=.map es d/\EH es.toList (BE x v L)/\(es.toList.map (·.born)).Nodup/\∀e∈es.toList,e.born<d:=by
 obtain⟨es,d,l,g,t,q⟩:=h.N;have m:=P7 H J g h.ok;have n:=PU x L 0;cases r:Dh x L 0 with
 |none=>
  rw[r]at m n;refine⟨_,by simp[Instr.mapUpdate,run_underlying A,gM l,Ma H,m,sM l];rfl,_,_,rfl,?_,?_,?_⟩
  .have M:(BV x L).isSome=false:=by rw[<-n];rfl
   unfold BE;rw[if_neg (by rw[M];decide)];simp only[EH]at g⊢;simp[g]
  .simp only[Kf,yF,yq,YB];rw[yK];refine⟨t,qe,?_⟩;intro a T c D e;simp at D;subst D;subst e;obtain⟨z,G,e⟩:=yz.1 T;have:=q z G;omega
  .intro e O;simp only[Kf,yn,yp]at O;rcases O with O|rfl
   .have:=q e O;omega
   .exact K6 _
 |some p=>
  obtain⟨i,u⟩:=p;rw[r]at m n;obtain⟨k,B,s⟩:=Qg r;rw[Yc]at B;subst B;obtain⟨y,f,E,W⟩:=RX g s;have U:i<es.size:=by have:=(ye.1 f).1;simpa using this
  have I:(((es[i]?).map (·.key)).getD (AM x))=AM x:=by
   have:es[i]?=some y:=by rw[<-Yh];exact f
   rw[this];exact E
  refine⟨_,by simp[Instr.mapUpdate,run_underlying A,gM l,Ma H,m,Instr.keyThatStays,I,kq,sM l];rfl,_,_,rfl,?_,?_,?_⟩
  .have K:BE x v L=L.set i (x,v):=by
    unfold BE;rw[if_pos (by rw[<-n];rfl),<-Sk h.nd s]
   rw[K];show List.map _ _=List.map _ _;rw[List.map_set];have O:es.toList.map (λe=>(e.key,e.val))=L.map (λx=>(AM x.1,x.2)):=g;rw[<-O,Wv];apply YA;intro j;rw[yA,Wm,KZ,yA];by_cases hj:i=j
   .subst hj;rw[f];simp[U]
   simp[hj]
  .rw[Wv];have:(es.toList.modify i λe=>{ e with key:=AM x,val:=v }).map (·.born)=es.toList.map (·.born):=by
    apply YA;intro j;rw[yA,Wm,yA];by_cases hj:i=j
    .subst hj;rw[f];simp
    simp[hj]
   rw[this];exact t
  intro e O;rw[Wv]at O;obtain⟨j,hj⟩:=Kl.1 O;rw[Wm]at hj;by_cases C:i=j
  .subst C;rw[f]at hj;simp at hj;rw[<-hj];exact q y (yd f)
  simp[C]at hj;exact q e (yd QY)
def tQ{mt r ty t2:TypeId}(hm:P.underlying mt=some (.map kt r)){b:Nat}{L:List (Kt × Value)}(h:Ag w b L){x:Kt}(q:AG w x):∃o,(Builtin.delete_ #[mt,t2] ty #[.map (some b),AM x]).run P w=.ok (.tuple #[]) { w with heap:=w.heap.setIfInBounds b o }/\∃es a,o=.map es a/\EH es.toList (Dx x L)/\(es.toList.map (·.born)).Nodup/\∀e∈es.toList,e.born<a:=by
 obtain⟨es,a,hb,c,j,m⟩:=h.N;have hf:=P7 H q c h.ok;cases d:Dh x L 0 with
 |none=>
  rw[d]at hf;refine⟨_,qI,_,_,rfl,?_,j,m⟩;rw[jR (Xa d)];exact c
 |some p=>
  obtain⟨i,u⟩:=p;rw[d]at hf;obtain⟨k,g,l⟩:=Qg d;rw[Yc]at g;subst g;obtain⟨t,n,v,s⟩:=RX c l;have f:i<es.size:=by have:=(ye.1 n).1;simpa using this
  refine⟨_,by simp[Builtin.delete_,run_underlying hm,gM hb,Ma H,hf,sM hb];rfl,_,_,rfl,?_,?_,?_⟩
  .rw[<-Xd h.nd l];have O:es.toList.map (λe=>(e.key,e.val))=L.map (λx=>(AM x.1,x.2)):=c;show List.map _ _=List.map _ _;rw[Array.eraseIdxIfInBounds,dif_pos f,Wi,Wb,Wb,O]
  .rw[Array.eraseIdxIfInBounds,dif_pos f,Wi,Wb];exact j.sublist (Wj _ _)
  intro e O;rw[Array.eraseIdxIfInBounds,dif_pos f,Wi]at O;exact m e ((Wj _ _).mem O)
def Vn{mt f O ty}(e:P.underlying mt=some (.map f O)){b L}(h:Ag w b L):(Builtin.len_ #[mt] ty #[.map (some b)]).run P w=.ok (goInt L.length) w:=by
 obtain⟨es,a,d,c,_⟩:=h.N;have:=uM c;simp[Builtin.len_,run_underlying e,gM d,<-this]
def zY{mt e O ty}(d:P.underlying mt=some (.map e O)){b L}(h:Ag w b L):∃a,(Builtin.clear_ #[mt] ty #[.map (some b)]).run P w=.ok (.tuple #[]) { w with heap:=w.heap.setIfInBounds b (.map #[] a) }:=by
 obtain⟨es,a,c,f,_⟩:=h.N;exact⟨a,by simp[Builtin.clear_,run_underlying d,gM c,sM c]⟩
def tj{mt E:TypeId}(C:P.underlying mt=some (.map kt E)){z:Value}(K:(zeroValue E).run P w=.ok z w){b:Nat}{L:List (Kt × Value)}(h:Ag w b L){x:Kt}(M:AG w x):∃(es:Array MapEntry)(d i:Nat)(e:MapEntry),(Instr.mapEntry mt (.map (some b)) (AM x)).run P w=.ok (.tuple #[(BV x L).getD z,goInt e.born]) { w with heap:=w.heap.setIfInBounds b (.map es d) }/\EH es.toList (BE x ((BV x L).getD z) L)/\(es.toList.map (·.born)).Nodup/\(∀e∈es.toList,e.born<d)/\es.toList[i]?=some e/\e.key=AM x:=by
 obtain⟨es,d,g,f,v,t⟩:=h.N;have l:=P7 H M f h.ok;have n:=PU x L 0;cases o:Dh x L 0 with
 |none=>
  rw[o]at l n;have s:BV x L=none:=by rw[<-n];rfl
  refine⟨es.push { key:=AM x,val:=z,born:=d },d+1,es.size,{ key:=AM x,val:=z,born:=d },by rw[s];simp[Instr.mapEntry,run_underlying C,gM g,Ma H,l,K,sM g],?_,?_,?_,qe,rfl⟩
  .rw[s];unfold BE;rw[s,if_neg qh];simp only[EH]at f⊢;simp[f]
  .simp only[Kf,yF,yq,YB];rw[yK];refine⟨v,qe,?_⟩;intro a T c G e;simp at G;subst G;subst e;obtain⟨y,R,e⟩:=yz.1 T;have:=t y R;omega
  .intro e m;simp only[Kf,yn,yp]at m;rcases m with m|rfl
   .have:=t e m;omega
   .exact K6 _
 |some p=>
  obtain⟨i,u⟩:=p;rw[o]at l n;obtain⟨k,D,O⟩:=Qg o;rw[Yc]at D;subst D;obtain⟨A,I,r,U⟩:=RX f O;have q:BV x L=some u:=by rw[<-n];rfl
  have B:es[i]?=some A:=by rw[<-Yh];exact I
  have J:es.modify i (λe=>{ e with key:=AM x })=es:=by
   apply Array.ext_getElem?;intro j;rw[YT];split
   .rename_i e;subst e;rw[B];simp[<-r]
   rfl
  refine⟨es,d,i,A,?_,?_,v,t,I,r⟩
  .rw[q];simp[Instr.mapEntry,run_underlying C,gM g,Ma H,l,Instr.keyThatStays,B,r,kq,sM g,J]
  rw[q];unfold BE;rw[q,if_pos (show(some u).isSome=true from rfl)];have:L.map (λy=>if y.1=x then(x,u) else y)=L:=by
   rw[<-Sk h.nd O];apply YA;intro j;rw[KZ];split
   .rename_i e;subst e;rw[O];simp[(ye.1 O).1]
   rfl
  show EH es.toList (L.map _);rw[YE,this];exact f
def sR{mt b L es}{a i:Nat}{e}(o:w.heap[b]?=some (.map es a))(m:EH es.toList L)(t:(L.map Prod.fst).Nodup)(s:(es.toList.map (·.born)).Nodup)(d:es.toList[i]?=some e){x}(q:e.key=AM x)(u):∃g,(Instr.entryStore mt (.map (some b)) (goInt e.born) u).run P w=.ok () { w with heap:=w.heap.setIfInBounds b (.map g a) }/\EH g.toList (BE x u L)/\(g.toList.map (·.born))=es.toList.map (·.born):=by
 have O:i<es.size:=by have:=(ye.1 d).1;simpa using this
 have l:es[i]?=some e:=by rw[<-Yh];exact d
 obtain⟨v,p⟩:∃v,L[i]?=some (x,v):=by
  have:=congrArg (·[i]?) (show es.toList.map (λe=>(e.key,e.val))=L.map (λx=>(AM x.1,x.2)) from m);simp only[yA,d,Y4]at this;cases n:L[i]? with
  |none=>rw[n]at this;simp at this
  |some y=>
   rw[n]at this;simp at this;obtain⟨f,k⟩:=this;rw[q]at f;exact⟨y.2,by rw[<-MT f.y]⟩
 have D:es.findIdx? (λz=>(z.born:Int)==(e.born:Int))=some i:=by
  rw[Array.findIdx?_eq_some_iff_getElem];have C:es[i]=e:=by
   rw[WL O]at l;exact Option.some.inj l
  refine⟨O,by rw[C];simp,λj hj=>?_⟩;have r:j<es.size:=Nat.lt_trans hj O;simp only[beq_iff_eq];intro E;have f:(es.toList.map (·.born))[j]?=some e.born:=by
   rw[yA,Yh,WL r];simp only[Y4,YY];omega
  have k:(es.toList.map (·.born))[i]?=some e.born:=by rw[yA,d];rfl
  have:=(List.getElem?_inj (by rw[yt];simpa using r) s).1 (f.c k.y);omega
 have A:BE x u L=L.set i (x,u):=by
  unfold BE;rw[if_pos (M7.2 (yz.2 ⟨(x,v),yd p,rfl⟩)),<-Sk t p]
 refine⟨es.modify i λz=>{ z with val:=u },?_,?_,?_⟩
 .simp[Instr.entryStore,gM o,goInt,asInt,asIntOf,D,sM o]
 .rw[A];show List.map _ _=List.map _ _;rw[List.map_set];have B:es.toList.map (λe=>(e.key,e.val))=L.map (λx=>(AM x.1,x.2)):=m;rw[<-B,Wv];apply YA;intro j;rw[yA,Wm,KZ,yA];by_cases hj:i=j
  .subst hj;rw[d];simp[O,q]
  simp[hj]
 rw[Wv];apply YA;intro j;rw[yA,Wm,yA];by_cases hj:i=j
 .subst hj;rw[d];simp
 simp[hj]
end
structure A3(w:World) (b r:Nat) (L:List (Kt × Value)) (todo:List Kt):Prop where
 N:∃es clock since seen c0,w.heap[b]?=some (.map es clock)/\EH es.toList L/\(es.toList.map (·.born)).Nodup/\(∀e∈es.toList,e.born<clock)/\w.heap[r]?=some (.mapIter (some b) since seen c0)/\(∀e∈es.toList,e.born<since)/\since<=c0/\c0<=clock/\(leftOf es seen).toList.map (·.key)=todo.map AM
 nd:(L.map Prod.fst).Nodup
 ok:∀y∈L,AG w y.1
def A3.map{w b r L c}(h:A3 w b r L c):Ag w b L:=by
 obtain⟨es,a,since,seen,i,g,d,f,e,_⟩:=h.N;exact⟨⟨es,a,g,d,f,e⟩,h.nd,h.ok⟩
def A3.len{w b r L a}(h:A3 w b r L a):w.heap[r]?≠w.heap[b]?:=by
 obtain⟨es,c,since,seen,j,d,f,i,g,e,_⟩:=h.N;rw[d,e];simp
def X9{α β:Type}{f:α->β}(a:∀x y,f x=f y->x=y):∀{l:List α},l.Nodup->(l.map f).Nodup
 |[],_=>by simp
 |x::r,h=>by
  rw[y9]at h
  rw[yq,y9]
  refine⟨λb=>?_,X9 a h.2⟩
  obtain⟨y,c,e⟩:=yz.1 b
  exact h.1 (a y x e▸c)
def Oz{α β:Type}{f:α->β}:∀{l:List α},(l.map f).Nodup->∀{x y:α},x∈l->y∈l->f x=f y->x=y
 |[],_,x,_,hx,_,_=>by simp at hx
 |z::r,h,x,y,hx,hy,e=>by
  rw[yq,y9]at h
  rcases yG.1 hx with b|b
  .rcases yG.1 hy with a|a
   .rw[b,a]
   exact absurd (by rw[<-b,e];exact yU a) h.1
  rcases yG.1 hy with a|a
  .exact absurd (by rw[<-a,<-e];exact yU b) h.1
  exact Oz h.2 b a e
def A5.aV{w w' p}(h:A5 w p)(b:∀(g:Nat)c,w.heap[g]?=some (.cells c 145 (0,0))->w'.heap[g]?=some (.cells c 145 (0,0))):A5 w' p:=λa O=>by
 obtain⟨c,d⟩:=h a O;exact⟨c,b _ c d⟩
def AG.aV{w w' x}(h:AG w x)(a:∀(g:Nat)c,w.heap[g]?=some (.cells c 145 (0,0))->w'.heap[g]?=some (.cells c 145 (0,0))):AG w' x:=⟨h.1.aV a,h.2.1.aV a,h.2.2.aV a⟩
def A5.iter{w w' p}(h:A5 w p)(a:∀(g:Nat)c t,w.heap[g]?=some (.cells c t (0,0))->w'.heap[g]?=some (.cells c t (0,0))):A5 w' p:=h.aV λg c=>a g c _
def AG.iter{w w' x}(h:AG w x)(a:∀(g:Nat)c t,w.heap[g]?=some (.cells c t (0,0))->w'.heap[g]?=some (.cells c t (0,0))):AG w' x:=⟨h.1.iter a,h.2.1.iter a,h.2.2.iter a⟩
def SU{P w b r L d}(h:A3 w b r L d)(ty) :
  (d=[]/\(Instr.next (Pn r) false ty).run P w=.ok (.tuple #[.bool false]) w) ∨
  ∃ x v o f,x∈d/\(x,v)∈L/\(f=w∨f=w.drew)/\(Instr.next (Pn r) false ty).run P w=.ok (.tuple #[.bool true,AM x,v]) (ChangeMaps.setBlock f r o) /\
   A3 (ChangeMaps.setBlock f r o) b r L (d.filter (λy=>decide (y≠x)))/\(Instr.entry (Pn r)).run P (ChangeMaps.setBlock f r o)=.ok (.tuple #[AM x,v]) (ChangeMaps.setBlock f r o):=by
 obtain⟨es,a,since,seen,c0,s,D,u,W,j,J,Z,h8,m⟩:=h.N;rcases run_next_at (P:=P) w ty r b since c0 seen es a j s J Z with⟨h0,C⟩|⟨e,H,f,U,C⟩
 .left;refine⟨?_,C⟩;have:(leftOf es seen).toList.length=0:=qD;rw[YL.1 this]at m;cases d with
  |nil=>rfl
  |cons x t=>simp at m
 right;have l:e∈es.toList:=by
  have:=H;simp only[leftOf,WQ,yf]at this;exact this.1
 have ak:e.key∈d.map AM:=by rw[<-m];exact yU H
 obtain⟨x,hx,O⟩:=yz.1 ak;have Y:(e.key,e.val)∈L.map (λx=>(AM x.1,x.2)):=by
  rw[<-show es.toList.map (λe=>(e.key,e.val))=L.map (λx=>(AM x.1,x.2)) from D];exact yz.2 ⟨e,l,rfl⟩
 obtain⟨y,hy,E⟩:=yz.1 Y;simp only[YO]at E;have au:y.1=x:=MT (E.1.c O.y);have ar:r≠b:=λB=>by rw[B,s]at j;simp at j
 have n:f.heap=w.heap:=by rcases U with rfl|rfl<;>rfl
 have am:r<w.heap.size:=by
  have:=j;rw[yj]at this;exact this.1
 have G:(ChangeMaps.setBlock f r (.mapIter (some b) since (seen.push e.born) a)).heap[b]?=some (.map es a):=by
  simp only[ChangeMaps.setBlock,n];rw[Y5 ar];exact s
 have I:(ChangeMaps.setBlock f r (.mapIter (some b) since (seen.push e.born) a)).heap[r]?=some (.mapIter (some b) since (seen.push e.born) a):=by
  simp only[ChangeMaps.setBlock,n];rw[Y7 am]
 have aq:(es.toList.map (·.key)).Nodup:=by
  have p:es.toList.map (·.key)=(L.map Prod.fst).map AM:=by
   have:=congrArg (List.map Prod.fst) (show es.toList.map (λe=>(e.key,e.val))=L.map (λx=>(AM x.1,x.2)) from D);rw[Yv,Yv]at this;rw[Yv];exact this
  rw[p];exact X9 (λ_ _ h=>MT h) h.nd
 have ao:∀z∈es.toList,(z.born=e.born↔z.key=e.key):=λz hz=>
  ⟨λq=>by rw[Oz u hz l q],λq=>by rw[Oz aq hz l q]⟩
 refine⟨x,e.val,_,f,hx,by rw[<-au,<-E.2];exact hy,U,by rw[O];exact C,⟨⟨es,a,since,seen.push e.born,a,G,D,u,W,I,J,qd,yu _,?_⟩,h.nd,?_⟩,?_⟩
 .have p:(leftOf es (seen.push e.born)).toList=(leftOf es seen).toList.filter (λz=>!(z.born==e.born)):=by
   simp only[leftOf,WQ,Yq];refine YK λz hz=>?_;rw[Array.contains_push];cases seen.contains z.born<;>cases z.born==e.born<;>rfl
  rw[p];have i:∀{A:List MapEntry}{T:List Kt},(∀z∈A,z∈es.toList)->A.map (·.key)=T.map AM->(A.filter (λz=>!(z.born==e.born))).map (·.key)=(T.filter (λy=>decide (y≠x))).map AM:=by
   intro A
   induction A with
   |nil=>
    intro T _ i;cases T with
    |nil=>rfl
    |cons t T=>simp at i
   |cons z A ih=>
    intro T M i;cases T with
    |nil=>simp at i
    |cons t T=>
     simp only[yq,Yu]at i;have K:=ih (λy hy=>M y Jc) i.2;have hz:=ao z (M z qe);by_cases q:z.born=e.born
     .have:t=x:=MT (i.1.y.c ((hz.1 q).c O.y));rw[yJ (by simp[q]),yJ (by simp[this])];exact K
     have:t≠x:=λk=>q (hz.2 (by rw[i.1,k,O]));rw[yD (by simp[q]),yD (by simp[this]),yq,yq,K,i.1]
  exact i (λz hz=>pq) m
 . intro y hy;exact AG.iter (h.ok y hy) (λg c t R=>by
   simp only[ChangeMaps.setBlock,n];rw[Y5 (λB=>by rw[B,R]at j;simp at j)];exact R)
 rw[O];exact run_entry_at (P:=P) _ r b since seen es a e I G l u
def Bg.put{w b}(o):Bg (some b) w { w with heap:=w.heap.setIfInBounds b o }:=
 ⟨⟨rfl,rfl,rfl,qe,λg c=>qd⟩,λg _ a=>by
  show(w.heap.setIfInBounds b o)[g]?=w.heap[g]?
  rw[Y5 (λe=>a Gx)]⟩
def AG.ar{w w' b x}(h:AG w x)(f:Bg (some b) w w')(d:∀c t,w.heap[b]?≠some (.cells c t (0,0))):AG w' x:=
 h.iter λg c t a=>(f.block g (Ak a) (λe=>by injection e with e;subst e;exact d c t a)).c a
def AG.d{w w' x}(h:AG w x)(b:Bw w w'):AG w' x:=h.iter λg _ _ a=>(b.block g (Ak a)).c a
def Ag.lt{w b L}(h:Ag w b L):b<w.heap.size:=by
 obtain⟨es,a,c,_⟩:=h.N;exact Ak c
def Ag.nc{w b L}(h:Ag w b L):∀c t,w.heap[b]?≠some (.cells c t (0,0)):=λc t e=>by
 obtain⟨es,a,d,_⟩:=h.N;rw[d]at e;cases e
def Ag.d{w w' b L}(h:Ag w b L)(e:Bw w w'):Ag w' b L:=by
 obtain⟨es,a,g,f⟩:=h.N;exact⟨⟨es,a,(e.block b h.lt).c g,f⟩,h.nd,λy i=>(h.ok y i).d e⟩
def Ag.ar{w w' b g L}(h:Ag w b L)(f:Bg (some g) w w')(d:g≠b)(i:∀c t,w.heap[g]?≠some (.cells c t (0,0))):Ag w' b L:=by
 obtain⟨es,a,l,k⟩:=h.N;exact⟨⟨es,a,(f.block b h.lt (λe=>d J1)).c l,k⟩,h.nd,λy j=>(h.ok y j).ar f i⟩
def VY{x v L}(h:(L.map Prod.fst).Nodup):((BE x v L).map Prod.fst).Nodup:=by
 cases b:(BV x L).isSome
 .unfold BE;rw[if_neg (by rw[b];decide),yF,yq,YB,yK];refine⟨h,qe,λa O c d e=>?_⟩;rw[yp]at d;subst d;subst e;rw[M7.2 O]at b;cases b
 rw[zJ b];exact h
def U1{x v L y}(h:y∈BE x v L):y.1=x∨y∈L:=by
 unfold BE at h;split at h
 .obtain⟨z,O,e⟩:=yz.1 h;split at e
  .exact .inl (by rw[<-e])
  exact .inr (e▸O)
 rcases yn.1 h with h|h
 .exact .inr h
 rw[yp]at h;exact .inl (by rw[h])
def VV{x L}(h:(L.map Prod.fst).Nodup):((Dx x L).map Prod.fst).Nodup:=h.sublist ((YR).map _)
section
variable {P : Program} {kt pt ft : TypeId} (H : Ur P kt pt ft) {w : World}
def U5{mt O:TypeId}(i:P.underlying mt=some (.map kt O)){b:Nat}{L:List (Kt × Value)}(h:Ag w b L){x:Kt}(f:AG w x)(v:Value):∃w',(Instr.mapUpdate mt (.map (some b)) (AM x) v).run P w=.ok () w'/\Ag w' b (BE x v L)/\Bg (some b) w w':=by
 obtain⟨o,j,es,a,rfl,l,k,g⟩:=uO H i h f v;have d:Bg (some b) w { w with heap:=w.heap.setIfInBounds b (.map es a) }:=Bg.put _;refine⟨_,j,⟨⟨es,a,?_,l,k,g⟩,VY h.nd,λy c=>?_⟩,d⟩
 .exact TW
 rcases U1 c with e|c
 .rw[e];exact f.ar d h.nc
 exact(h.ok y c).ar d h.nc
def Su{mt O ty t2:TypeId}(e:P.underlying mt=some (.map kt O)){b:Nat}{L:List (Kt × Value)}(h:Ag w b L){x:Kt}(f:AG w x):∃w',(Builtin.delete_ #[mt,t2] ty #[.map (some b),AM x]).run P w=.ok (.tuple #[]) w'/\Ag w' b (Dx x L)/\Bg (some b) w w':=by
 obtain⟨o,g,es,a,rfl,k,j,d⟩:=tQ H (ty:=ty) (t2:=t2) e h f;have c:Bg (some b) w { w with heap:=w.heap.setIfInBounds b (.map es a) }:=Bg.put _;refine⟨_,g,⟨⟨es,a,?_,k,j,d⟩,VV h.nd,λy i=>?_⟩,c⟩
 .exact TW
 exact(h.ok y (yf.1 i).1).ar c h.nc
end
end Go.Proofs.YtikojfajahnhgaaGreat
