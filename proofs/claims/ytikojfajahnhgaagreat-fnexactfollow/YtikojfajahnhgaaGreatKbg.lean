import Derived.Test.YtikojfajahnhgaaGreatKbf
set_option linter.all false
set_option maxRecDepth 100000
namespace Go.Proofs.YtikojfajahnhgaaGreat
attribute [local simp] At I6 Pn mzI
attribute [local go_sem] At I6 Pn
open Go.RowKit Go.Proofs.Tryz
section
attribute [local go_sem ↓] wp_at_zero wp_at_succ
theorem run_store_fnH {P:Program} (w:World) (a:Addr) (m:Mode) (fn:Fn) (x y:Array Value):(store a (.func fn x y) m).run P w=stored P w a (.func fn x y) m:=run_store P w a _ m rfl
attribute [local go_sem] run_store_fnH
def Vm(a up w)(h:At w a 4 up):Ca 316 #[Pn a] w λe w'=>e=.returned up/\w'=w:=by
 go_enter func316,ntmps316;go_wp2_with fail;exact bodyPost_ret (by simp[results,results316,go_sem]) rfl ⟨rfl,rfl⟩
def ziw(f d L w)(h:At w f 5 (.map (some d)))(c:Ag w d (uv L)):Ca 318 #[Pn f] w λe w'=>e=.returned (I6 (L.length:Int))/\w'=w:=by
 have a:=Uj (P:=prog) (ty:=3) EJ c;have b:(uv L).length=L.length:=by simp[uv]
 rw[b]at a;simp only[goInt]at a;clear c b;go_enter func318,ntmps318;go_wp2_with fail;exact bodyPost_ret (by simp[results,results318,go_sem]) rfl ⟨rfl,rfl⟩
def Qd(a hv cs t w)(h:w.heap[a]?=some (.cells cs t (0,0)))(d:6<cs.size)(b:∃c cap O,hv=.func c cap O):Ca 317 #[Pn a,hv] w λe w'=>e=.returned (.tuple #[])/\w'.heap[a]?=some (.cells (cs.setIfInBounds 6 hv) t (0,0))/\Bi (some a) w w':=by
 obtain⟨c,cap,O,rfl⟩:=b;have f:At w a 6 cs[6]:=by simp[World.cell?,h,d]
 have g:w.frozen? ⟨a,6,none⟩=false:=by simp[World.frozen?,h]
 have Y:=Aa h;clear h;go_enter func317,ntmps317;go_wp2_with fail;exact bodyPost_end (results_none rfl _ _ _) rfl ⟨rfl,Fq Y.o _,Bi.set _⟩
def Ag.new{w b a}(h:w.heap[b]?=some (.map #[] a)):Ag w b []:=⟨⟨#[],a,h,rfl,We,λ_ c=>by cases c⟩,We,λ_ d=>by cases d⟩
def Fy(w:World)(o):(w.alloc o).heap.size=w.heap.size+1:=K3 _
def NJ(w:World)(O a Y):(((w.alloc O).alloc a).alloc Y).heap[w.heap.size]?=some O/\(((w.alloc O).alloc a).alloc Y).heap[w.heap.size+1]?=some a/\(((w.alloc O).alloc a).alloc Y).heap[w.heap.size+1+1]?=some Y:=by
 simp only[World.alloc,K6,K3];refine⟨?_,?_,?_⟩
 .rw[if_neg qd,if_neg qd,if_pos trivial]
 .rw[if_neg qd,if_pos trivial]
 rw[if_pos trivial]
def JA(w O a Y):Bw w (((w.alloc O).alloc a).alloc Y):=(Af.alloc (by rw[Fy];omega) _).alloc (by rw[Fy,Fy];omega) _
def JC(w:World)(a Y b O):((((w.alloc a).alloc Y).alloc b).alloc O).heap[w.heap.size+1]?=some Y/\((((w.alloc a).alloc Y).alloc b).alloc O).heap[w.heap.size+1+1+1]?=some O:=by
 simp only[World.alloc,K6,K3];refine⟨?_,?_⟩
 .rw[if_neg qd,if_neg qd,if_pos trivial]
 rw[if_pos trivial]
def Jz(w a Y O b):Bw w ((((w.alloc a).alloc Y).alloc O).alloc b):=(JA w a Y O).alloc (by rw[Fy,Fy,Fy];omega) _
def JB(w:World)(b Y c O a):(((((w.alloc b).alloc Y).alloc c).alloc O).alloc a).heap[w.heap.size+1]?=some Y/\(((((w.alloc b).alloc Y).alloc c).alloc O).alloc a).heap[w.heap.size+1+1+1]?=some O/\(((((w.alloc b).alloc Y).alloc c).alloc O).alloc a).heap[w.heap.size+1+1+1+1]?=some a:=by
 simp only[World.alloc,K6,K3];refine⟨?_,?_,?_⟩
 .rw[if_neg qd,if_neg qd,if_neg qd,if_pos trivial]
 .rw[if_neg qd,if_pos trivial]
 rw[if_pos trivial]
theorem run_store_nf {P:Program} (w:World) (a:Addr) (m:Mode):(store a .nilFunc m).run P w=stored P w a .nilFunc m:=run_store P w a _ m rfl
attribute [local go_sem] run_store_nf
theorem run_makeMapH {P:Program} (t:TypeId) (w:World):(Instr.makeMap t none).run P w=.ok (.map (some w.heap.size)) (w.alloc (.map #[] 0)):=by simp[Instr.makeMap]
attribute [local go_sem] run_makeMapH
def mV(w):Ca 153 #[] w λe w'=>∃cb nb wb,e=.returned (Pn cb)/\w.heap.size<=cb/\w.heap.size<=nb/\w.heap.size<=wb/\nb≠wb/\w'.heap[cb]?=some (.cells #[.map (some nb),.map (some wb)] 263 (0,0))/\Ag w' nb []/\Ag w' wb []/\Bw w w':=by
 go_enter func153,ntmps153;go_wp2_with fail;obtain⟨c,b,a⟩:=NJ w (.map #[] 0) (.map #[] 0) (.cells #[.map (some w.heap.size),.map (some (w.heap.size+1))] 263 (0,0));exact bodyPost_ret (by simp[results,results153,go_sem]) rfl ⟨_,_,_,rfl,qd,yX _,qd,qd,a,Ag.new c,Ag.new b,JA _ _ _ _⟩
def zk3(up c)(at_:Nat)(b n a)(Y:up=.nilIface∨∃t v,up=.iface t v)(O:∃p,c=.pointer p)(w):Ca 154 #[.agg #[.bool false,I6 (at_:Int),c,.slice b n a],up] w λe w'=>∃d f,e=.returned (.iface 337 (Pn d))/\w.heap.size<=d/\w.heap.size<=f/\JN w' d (.bool false) c up .nilFunc at_ b n a f/\Ag w' f []/\Bw w w':=by
 obtain⟨p,rfl⟩:=O;rcases Y with rfl|⟨t,v,rfl⟩
 focus
  go_enter func154,ntmps154;go_wp2_with fail;obtain⟨i,g⟩:=JC w (.cells #[.bool false,I6 (at_:Int),.pointer p,.slice b n a] 197 (0,0)) (.map #[] 0) (.cells #[.bool false,I6 (at_:Int),.pointer p,.slice b n a,.nilIface,.map (some (w.heap.size+1)),.nilFunc] 333 (0,0)) (.cells #[.bool false,I6 (at_:Int),.pointer p,.slice b n a,.nilIface,.map (some (w.heap.size+1)),.nilFunc] 339 (0,0))
 rotate_left
 focus
  go_enter func154,ntmps154;go_wp2_with fail;obtain⟨i,g⟩:=JC w (.cells #[.bool false,I6 (at_:Int),.pointer p,.slice b n a] 197 (0,0)) (.map #[] 0) (.cells #[.bool false,I6 (at_:Int),.pointer p,.slice b n a,.iface t v,.map (some (w.heap.size+1)),.nilFunc] 333 (0,0)) (.cells #[.bool false,I6 (at_:Int),.pointer p,.slice b n a,.iface t v,.map (some (w.heap.size+1)),.nilFunc] 339 (0,0))
 rotate_left
 all_goals
  exact bodyPost_ret (by simp[results,results154,go_sem]) rfl ⟨_,_,rfl,qd,qd,g,Ag.new i,Jz _ _ _ _ _⟩
def zlB(up f)(at_:Nat)(b n a)(Y:up=.nilIface∨∃t v,up=.iface t v)(O:∃p,f=.pointer p)(w):Ca 154 #[.agg #[.bool true,I6 (at_:Int),f,.slice b n a],up] w λe w'=>∃g d c,e=.returned (.iface 334 (Pn g))/\w.heap.size<=g/\w.heap.size<=d/\w.heap.size<=c/\d≠c/\NN w' g (.bool true) (I6 (at_:Int)) f up .nilFunc b n a d c/\Ag w' d []/\Ag w' c []/\Bw w w':=by
 obtain⟨p,rfl⟩:=O;rcases Y with rfl|⟨t,v,rfl⟩
 focus
  go_enter func154,ntmps154;go_wp2_with fail;obtain⟨k,j,i⟩:=JB w (.cells #[.bool true,I6 (at_:Int),.pointer p,.slice b n a] 197 (0,0)) (.map #[] 0) (.cells #[.bool true,I6 (at_:Int),.pointer p,.slice b n a,.nilIface,.map (some (w.heap.size+1)),.nilFunc] 333 (0,0)) (.map #[] 0) (.cells #[.bool true,I6 (at_:Int),.pointer p,.slice b n a,.nilIface,.map (some (w.heap.size+1)),.nilFunc,.map (some (w.heap.size+1+1+1))] 336 (0,0))
 rotate_left
 focus
  go_enter func154,ntmps154;go_wp2_with fail;obtain⟨k,j,i⟩:=JB w (.cells #[.bool true,I6 (at_:Int),.pointer p,.slice b n a] 197 (0,0)) (.map #[] 0) (.cells #[.bool true,I6 (at_:Int),.pointer p,.slice b n a,.iface t v,.map (some (w.heap.size+1)),.nilFunc] 333 (0,0)) (.map #[] 0) (.cells #[.bool true,I6 (at_:Int),.pointer p,.slice b n a,.iface t v,.map (some (w.heap.size+1)),.nilFunc,.map (some (w.heap.size+1+1+1))] 336 (0,0))
 rotate_left
 all_goals
  exact bodyPost_ret (by simp[results,results154,go_sem]) rfl ⟨_,_,_,rfl,qd,qd,qd,qd,i,Ag.new k,Ag.new j,(Jz _ _ _ _ _).alloc (by rw[Fy,Fy,Fy,Fy];omega) _⟩
end
def Ag.same{w w' b L}(h:Ag w b L)(d:w'.heap[b]?=w.heap[b]?)(g:CK w w'):Ag w' b L:=by
 obtain⟨es,a,e,c⟩:=h.at_;exact⟨⟨es,a,d.j e,c⟩,h.nd,λy f=>(h.ok y f).ck g⟩
def Z0(adr:F->Addr)(s:Int)(cb nb wb:Nat):CA (List Kt × List (Kt × Int)) where
 I w a:=CS w cb nb wb a.1 a.2
 S g:=g=nb∨g=wb
 fn:=155
 r:=cb
 ok T a:=(s=1->Ab adr T ∉ a.1) /\ -9<=Ar (Ab adr T) a.2/\Ar (Ab adr T) a.2<=9
 aG T a a':=a'=(FV (Ab adr T) s a.1,E9 (Ab adr T) s a.2)
def CS.ck{u d cb nb wb T M}(h:CS u cb nb wb T M)(f:Av (λg=>g=nb∨g=wb) u d):CK u d:=λg c t b a=>by
 refine(f.block g (As a) (λe=>?_)).j a;rcases e with rfl|rfl
 .exact h.now.aV c t b a
 exact h.news.aV c t b a
def tf(adr s)(f:s=1∨s = -1)(cb nb wb):(Z0 adr s cb nb wb).Good adr s:=by
 refine⟨λu i a h c d _=>?_,λu a T h b g=>?_⟩
 .have h:CS u cb nb wb a.1 a.2:=h;exact⟨c _ _ _ _ h.q,h.now.same (d _ h.now.lt (.inl rfl)) c,h.news.same (d _ h.news.lt (.inr rfl)) c,h.ne⟩
 have h:CS u cb nb wb a.1 a.2:=h;exact(wi cb nb wb a.1 a.2 (Ab adr T) s u h g f b.1 b.2).ac λe i q=>⟨q.1,_,rfl,q.2.1,h.ck q.2.2,q.2.2⟩
def Bl(adr:F->Addr)(U:List F)(w:World):Prop:=∀f∈U,Ee w (.pointer (some (adr f))) f/\Bc w (some (adr f))
def Bl.ck{adr U u w}(h:Bl adr U u)(b:CK u w):Bl adr U w:=λf a=>⟨(h f a).1.ck b,(h f a).2.ck b⟩
def U3{adr U w}(h:Bl adr U w){T:List F}(b:∀f∈T,f∈U)(i:Nat):Bc w (T[i]?.map adr):=by
 cases c:T[i]? with
 |none=>exactλa e=>by cases e
 |some f=>exact(h f (b f (yd c))).2
def Oq{adr U w}(h:Bl adr U w){T}(a:∀f∈T,f∈U):AK w (Ab adr T):=⟨U3 h a 0,U3 h a 1,U3 h a 2⟩
def Oy{adr U w}(h:Bl adr U w){T}(c:∀f∈T,f∈U)(hl:T.length<=3):Ej w (.pointer (T[0]?.map adr)) (.pointer (T[1]?.map adr)) (.pointer (T[2]?.map adr)) T:=λi f a=>by
 have b:=(h f (c f (yd a))).1;have O:=(yf.1 a).1
 match i,a,O with
 |0,a,_=>exact⟨_,rfl,by rw[a];exact b⟩
 |1,a,_=>exact⟨_,rfl,by rw[a];exact b⟩
 |2,a,_=>exact⟨_,rfl,by rw[a];exact b⟩
 |k+3,_,O=>omega
def Hb(adr:F->Addr)(T:List F)(s:Int)(TT:List (List F)):List (List F):=if s=1 then TT++[T] else TT.filter (λU=>decide (Ab adr U≠Ab adr T))
def VU(adr T s TT):(Hb adr T s TT).map (Ab adr)=FV (Ab adr T) s (TT.map (Ab adr)):=by
 unfold Hb FV;split
 .simp
 rw[Y8];rfl
structure LJ where
 nb:Nat
 bN:Nat
 tb:Nat
 ng:Value
 up:Value
 hv:Value
 at_:Nat
 ta:Option Addr
 tc:Nat
 fa:Option Addr
 fc:Nat
 ts:List Jt
structure Mt(adr:F->Addr) (U:List F) (d:LJ) (fs:List F) (w:World):Prop where
 q:JN w d.nb d.ng (.pointer (some ⟨d.bN,0,none⟩)) d.up d.hv d.at_ d.ta d.ts.length d.tc d.tb
 nd:w.cell? ⟨d.bN,4,none⟩=some (.slice d.fa fs.length d.fc)
 fp:Jf w d.fa fs adr
 jt:DQ w d.ta d.ts
 us:Bl adr U w
def Mt.ck{adr U d fs u w}(h:Mt adr U d fs u)(a:CK u w):Mt adr U d fs w:=⟨a _ _ _ _ h.q,a.cell h.nd,h.fp.ck a,h.jt.ck a,h.us.ck a⟩
def ZR{σ:Type}(K:CA σ)(adr:F->Addr)(s:Int)(U:List F)(d:LJ)(fs:List F):CA (List (List F) × σ) where
 I w a:=Mt adr U d fs w/\Ag w d.tb (uv (a.1.map (Ab adr)))/\K.I w a.2
 S g:=g=d.tb∨K.S g
 fn:=325
 r:=d.nb
 ok T a:=T.length=d.at_/\(∀f∈T,f∈U)/\(∀f∈fs,∀t∈d.ts,t.fits T f)/\(s=1->Ab adr T ∉ a.1.map (Ab adr))/\∀(i:Nat)(f:F)(b:σ),fs[i]?=some f->d.ts.all (Aq T f)=true->BG K.aG (((fs.take i).filter (λf=>d.ts.all (Aq T f))).map (λf=>T++[f])) a.2 b->K.ok (T++[f]) b
 aG T a a':=a'.1=Hb adr T s a.1/\BG K.aG ((fs.filter (λf=>d.ts.all (Aq T f))).map (λf=>T++[f])) a.2 a'.2
def rk{σ}(K:CA σ)(adr s)(B:s=1∨s = -1)(U d fs)(n:K.Good adr s)(E:Ht d.hv K.fn K.r)(hl:d.ts.length<=1048576)(O:fs.length<=1000)(w:∀f∈fs,f∈U)(W:d.at_<3)(j:¬K.S d.tb):(ZR K adr s U d fs).Good adr s:=by
 refine⟨λu p a h k o x=>?_,λu a T h l D=>?_⟩
 .obtain⟨b,c,i⟩:Mt adr U d fs u/\Ag u d.tb (uv (a.1.map (Ab adr)))/\K.I u a.2:=h;exact⟨b.ck k,c.same (o _ c.lt (.inl rfl)) k,n.1 u p a.2 i k (λg t hS=>o g t (.inr hS)) x⟩
 obtain⟨b,c,i⟩:Mt adr U d fs u/\Ag u d.tb (uv (a.1.map (Ab adr)))/\K.I u a.2:=h;obtain⟨G,z,N,A,L⟩:=l;have m:=b.q;rw[<-G]at m;refine(zg K adr s B n d.nb d.bN d.tb d.ng d.up d.hv d.ta d.fa d.tc d.fc d.ts fs T (a.1.map (Ab adr)) a.2 u m E b.nd b.fp (λf J=>(b.us f (w f J)).2) b.jt (Oy b.us z qd) hl O N qd c D A i j L).ac λe p q=>?_;obtain⟨M,⟨H,v,C⟩,y,Y,R⟩:=q;refine⟨M,(Hb adr T s a.1,H),⟨rfl,v⟩,⟨b.ck Y,?_,C⟩,Y,R⟩;rw[VU];exact y
def Jf.dK{w a fs adr}(h:Jf w a fs adr):JM w a fs:=λi f c=>by
 obtain⟨b,o,e,O,d⟩:=h i f c;exact⟨b,o,_,e,O,d⟩
structure LI where
 nb:Nat
 bN:Nat
 tb:Nat
 bb:Nat
 ng:Value
 ct:Value
 up:Value
 hv:Value
 ta:Option Addr
 tc:Nat
 fa:Option Addr
 fc:Nat
 ts:List Jt
structure Mq(adr:F->Addr) (U:List F) (d:LI) (fs:List F) (w:World):Prop where
 q:NN w d.nb d.ng d.ct (.pointer (some ⟨d.bN,0,none⟩)) d.up d.hv d.ta d.ts.length d.tc d.tb d.bb
 nd:w.cell? ⟨d.bN,4,none⟩=some (.slice d.fa fs.length d.fc)
 fp:Jf w d.fa fs adr
 jt:DQ w d.ta d.ts
 us:Bl adr U w
def Mq.ck{adr U d fs u w}(h:Mq adr U d fs u)(a:CK u w):Mq adr U d fs w:=⟨a _ _ _ _ h.q,a.cell h.nd,h.fp.ck a,h.jt.ck a,h.us.ck a⟩
def ZM{σ:Type}(K:CA σ)(adr:F->Addr)(s:Int)(U:List F)(d:LI)(fs:List F):CA (List (List F) × List (Kt × Int) × σ) where
 I w a:=Mq adr U d fs w/\Ag w d.tb (uv (a.1.map (Ab adr)))/\Ag w d.bb (iv a.2.1)/\K.I w a.2.2
 S g:=g=d.tb∨g=d.bb∨K.S g
 fn:=320
 r:=d.nb
 ok T a:=T.length<=3/\(∀f∈T,f∈U)/\(∀f∈fs,∀t∈d.ts,t.fits T f)/\(s=1->Ab adr T ∉ a.1.map (Ab adr)/\(nBar d.ts fs T=0->K.ok T a.2.2))/\(s = -1->0<=Ar (Ab adr T) a.2.1/\(Ar (Ab adr T) a.2.1=0->K.ok T a.2.2))
 aG T a a':=a'.1=Hb adr T s a.1/\a'.2.1=Gw (Ab adr T) (if s=1 then(nBar d.ts fs T:Int) else 0) a.2.1/\K.aL (if s=1 then nBar d.ts fs T else(Ar (Ab adr T) a.2.1).toNat) T a.2.2 a'.2.2
def sG{σ}(K:CA σ)(adr s)(M:s=1∨s = -1)(U d fs)(t:K.Good adr s)(D:Ht d.hv K.fn K.r)(hl:d.ts.length<=1048576)(H:fs.length<=1000)(i:d.tb≠d.bb)(f:¬K.S d.tb)(k:¬K.S d.bb):(ZM K adr s U d fs).Good adr s:=by
 refine⟨λu A a h l z G=>?_,λu a T h x C=>?_⟩
 .obtain⟨b,j,c,m⟩:Mq adr U d fs u/\Ag u d.tb (uv (a.1.map (Ab adr)))/\Ag u d.bb (iv a.2.1)/\K.I u a.2.2:=h;exact⟨b.ck l,j.same (z _ j.lt (.inl rfl)) l,c.same (z _ c.lt (.inr (.inl rfl))) l,t.1 u A a.2.2 m l (λg E hS=>z g E (.inr (.inr hS))) G⟩
 obtain⟨b,j,c,m⟩:Mq adr U d fs u/\Ag u d.tb (uv (a.1.map (Ab adr)))/\Ag u d.bb (iv a.2.1)/\K.I u a.2.2:=h;obtain⟨N,J,W,B,R⟩:=x;rcases M with rfl|rfl
 .refine(zo2 K adr t d.nb d.bN d.tb d.bb d.ng d.ct d.up d.hv d.ta d.fa d.tc d.fc d.ts fs T (a.1.map (Ab adr)) a.2.1 a.2.2 u b.q D b.nd b.fp.dK b.jt (Oy b.us J N) hl H W j c i C (B rfl).1 m f k (B rfl).2).ac λe A q=>?_;obtain⟨y,⟨w,n,v⟩,p,o,O,Y⟩:=q;refine⟨y,(Hb adr T 1 a.1,Gw (Ab adr T) (nBar d.ts fs T:Int) a.2.1,w),⟨rfl,rfl,n⟩,⟨b.ck O,?_,o,v⟩,O,Y⟩;rw[VU];exact p
 obtain⟨Z,L⟩:=R rfl;refine(wH K adr t d.nb d.tb d.bb d.ng d.ct (Pn d.bN) (.slice d.ta d.ts.length d.tc) d.up d.hv T (a.1.map (Ab adr)) a.2.1 (Ar (Ab adr T) a.2.1).toNat a.2.2 u b.q D j c i C qd m f k (λe=>L qd)).ac λe A q=>?_;obtain⟨y,⟨w,n,v⟩,p,o,O,Y⟩:=q;refine⟨y,(Hb adr T (-1) a.1,Gw (Ab adr T) 0 a.2.1,w),⟨rfl,rfl,n⟩,⟨b.ck O,?_,o,v⟩,O,Y⟩;rw[VU];exact p
abbrev Ap:=(LJ ⊕ LI) × List F
def CT:List Ap->Type
 |[]=>List Kt × List (Kt × Int)
 |(.inl _,_)::r=>List (List F) × CT r
 |(.inr _,_)::r=>List (List F) × List (Kt × Int) × CT r
def C_(adr:F->Addr)(s:Int)(U:List F)(cb nb wb:Nat):(l:List Ap)->CA (CT l)
 |[]=>Z0 adr s cb nb wb
 |(.inl d,fs)::r=>ZR (C_ adr s U cb nb wb r) adr s U d fs
 |(.inr d,fs)::r=>ZM (C_ adr s U cb nb wb r) adr s U d fs
def LK(adr:F->Addr)(s:Int)(U:List F)(cb nb wb:Nat):List Ap->Prop
 |[]=>True
 |(.inl d,fs)::r=>Ht d.hv (C_ adr s U cb nb wb r).fn (C_ adr s U cb nb wb r).r/\d.ts.length<=1048576/\fs.length<=1000/\(∀f∈fs,f∈U)/\d.at_<3/\¬(C_ adr s U cb nb wb r).S d.tb/\LK adr s U cb nb wb r
 |(.inr d,fs)::r=>Ht d.hv (C_ adr s U cb nb wb r).fn (C_ adr s U cb nb wb r).r/\d.ts.length<=1048576/\fs.length<=1000/\d.tb≠d.bb/\¬(C_ adr s U cb nb wb r).S d.tb/\¬(C_ adr s U cb nb wb r).S d.bb/\LK adr s U cb nb wb r
def Ot(adr s)(a:s=1∨s = -1)(U cb nb wb):∀(l:List Ap),LK adr s U cb nb wb l->(C_ adr s U cb nb wb l).Good adr s
 |[],_=>tf adr s a cb nb wb
 |(.inl d,fs)::r,⟨h1,h2,h3,h4,h5,h6,h7⟩=>rk _ adr s a U d fs (Ot adr s a U cb nb wb r h7) h1 h2 h3 h4 h5 h6
 |(.inr d,fs)::r,⟨h1,h2,h3,h4,h5,h6,h7⟩=>sG _ adr s a U d fs (Ot adr s a U cb nb wb r h7) h1 h2 h3 h4 h5 h6
def vx (nb w):Sem.run prog (method 525 337 (Pn nb) "loop.example/s01311/impl.see") w=.ok (324,Pn nb) w:=by kernel_rfl
def xK (nb w):Sem.run prog (method 525 334 (Pn nb) "loop.example/s01311/impl.see") w=.ok (319,Pn nb) w:=by kernel_rfl
def kq (nb w):Sem.run prog (method 525 337 (Pn nb) "loop.example/s01311/impl.above") w=.ok (316,Pn nb) w:=by kernel_rfl
def lF (nb w):Sem.run prog (method 525 334 (Pn nb) "loop.example/s01311/impl.above") w=.ok (316,Pn nb) w:=by kernel_rfl
def vz (nb w):Sem.run prog (method 525 337 (Pn nb) "loop.example/s01311/impl.remembered") w=.ok (318,Pn nb) w:=by kernel_rfl
def uy (nb w):Sem.run prog (method 525 334 (Pn nb) "loop.example/s01311/impl.remembered") w=.ok (318,Pn nb) w:=by kernel_rfl
def lZ (nb w):Sem.run prog (method 525 337 (Pn nb) "loop.example/s01311/impl.handTo") w=.ok (317,Pn nb) w:=by kernel_rfl
def lR (nb w):Sem.run prog (method 525 334 (Pn nb) "loop.example/s01311/impl.handTo") w=.ok (317,Pn nb) w:=by kernel_rfl
section
attribute [local go_sem ↓] wp_at_zero wp_at_succ
def GV(n:Bool × Nat):Value:=if n.1=true then .iface 334 (.pointer (some ⟨n.2,0,none⟩)) else .iface 337 (.pointer (some ⟨n.2,0,none⟩))
def Cd(ns:List (Bool × Nat))(k:Nat):Value:=(ns[k]?.map GV).getD .nilIface
def Pg(ns:List (Bool × Nat)):Value->Nat
 |.iface _ (.pointer (some a))=>ns.length-(ns.map Prod.snd).idxOf a.block
 |_=>0
def Jo(b:Bool):Nat:=if b=true then 319 else 324
def RA{a}(h:(a.map Prod.snd).Nodup){k}(d:k<=a.length):Pg a (Cd a k)=a.length-k:=by
 unfold Cd;rcases Wx k a.length with hl|hl
 .have b:a[k]?=some a[k]:=K2;rw[b];have c:(a.map Prod.snd).idxOf a[k].2=k:=by
   have:=List.Nodup.idxOf_getElem h k Mh;simpa using this
  show Pg a (GV a[k])=_;unfold GV;split<;>simp only[Pg,c]
 have b:a[k]?=none:=K2;rw[b];show 0=_;omega
set_option maxHeartbeats 3200000 in
def xF(y a m s)(P:Nat->World->Prop)(p:(a.map Prod.snd).Nodup)(w)(z:P 0 w)(M:w.cell? ⟨y,0,none⟩=some (Cd a 0))(O:∀(k:Nat)(n:Bool × Nat)(u:World),a[k]?=some n->P k u->Ca (Jo n.1) #[.pointer (some ⟨n.2,0,none⟩),.pointer m,.int .i64 s] u λe A=>e=.returned (.tuple #[])/\P (k+1) A/\A.cell? ⟨n.2,4,none⟩=some (Cd a (k+1))) :
  Ca 305 #[.pointer (some ⟨y,0,none⟩),.pointer m,.int .i64 s] w λe w'=>e=.returned (.tuple #[])/\P a.length w':=by
 obtain⟨I,J,x⟩:=AQ O z p;clear O z p;go_enter func305,ntmps305;go_wp2_with fail
 go_loopw [6] (λv wr=>∃k,k<=a.length/\v=Cd a k/\P k wr) (λv _=>Pg a v)
 case atStart=>exact⟨0,yA _,rfl,J.o⟩
 case round=>
  obtain⟨k,D,rfl,t⟩:=hrel;have r:=Aa t;clear t;rcases Wx k a.length with hl|hl
  .obtain⟨⟨b,nb⟩,q⟩:∃n,a[k]?=some n:=⟨a[k],K2⟩
   have i:=RA x.o D;have f:=RA x.o (show k+1<=a.length from hl);have hS:=I.o k (b,nb) wr q r.o;have hv:Cd a k=GV (b,nb):=by simp[Cd,q]
   rw[hv]at i⊢;obtain⟨nx,c⟩:∃nx,nx=Cd a (k+1):=⟨_,rfl⟩
   rw[<-c]at hS f;obtain⟨G,g,C⟩:=AQ c i f;clear c i f hv;cases b
   focus
    have d:=Aa hS;simp only[Jo,YE,if_false]at d;simp only[GV,YE,if_false]at g⊢;have H:=λu=>vx nb u;have B:=λu=>kq nb u;clear hS;go_wp2_with (first|(go_at_call 324;refine d.o.an λj⟨l,Y⟩=>?_)|(go_at_call 316;refine(Vm nb nx j Y).ac ?_;rintro e E ⟨rfl,rfl⟩)|fail)
   rotate_left
   focus
    have d:=Aa hS;simp only[Jo,if_true]at d;simp only[GV,if_true]at g⊢;have H:=λu=>xK nb u;have B:=λu=>lF nb u;clear hS;go_wp2_with (first|(go_at_call 319;refine d.o.an λj⟨l,Y⟩=>?_)|(go_at_call 316;refine(Vm nb nx j Y).ac ?_;rintro e E ⟨rfl,rfl⟩)|fail)
   rotate_left
   all_goals
    refine⟨⟨k+1,hl,G.o,l⟩,?_⟩;have L:=g.o;have K:=C.o;omega
  obtain rfl:k=a.length:=qd;have hv:Cd a a.length=.nilIface:=by simp[Cd]
  rw[hv];go_wp2_with fail;exact bodyPost_end (results_none rfl _ _ _) rfl ⟨rfl,r.o⟩
end
end Go.Proofs.YtikojfajahnhgaaGreat
