import Derived.Test.YtikojfajahnhgaaGreatKbb
import Derived.Test.YtikojfajahnhgaaGreatKav
set_option linter.all false
set_option maxRecDepth 100000
namespace Go.Proofs.YtikojfajahnhgaaGreat
attribute [local simp] At I6 Pn mzI
attribute [local go_sem] At I6 Pn
open Go.RowKit Go.Proofs.Tryz
attribute [local go_sem ↓] wp_at_zero wp_at_succ
def PV (nb w):Sem.run prog (method 525 337 (Pn nb) "loop.example/s01311/impl.take") w=.ok (325,Pn nb) w:=by kernel_rfl
def PO (nb w):Sem.run prog (method 525 334 (Pn nb) "loop.example/s01311/impl.take") w=.ok (320,Pn nb) w:=by kernel_rfl
def Ht(hv:Value)(f:Nat)(r:Nat):Prop:=
 (hv=.func (.method "loop.example/s01311/impl.take") #[.iface 337 (.pointer (some ⟨r,0,none⟩))] #[]∧f=325) ∨
 (hv=.func (.method "loop.example/s01311/impl.take") #[.iface 334 (.pointer (some ⟨r,0,none⟩))] #[]∧f=320) ∨
 (hv=.func (.func 155) #[.pointer (some ⟨r,0,none⟩)] #[]/\f=155)
def CK(u w:World):Prop:=∀(g:Nat)c t fr,u.heap[g]?=some (.cells c t fr)->w.heap[g]?=some (.cells c t fr)
def CK.cell{u w}(h:CK u w){b o v}(d:u.cell? ⟨b,o,none⟩=some v):w.cell? ⟨b,o,none⟩=some v:=by
 cases a:u.heap[b]? with
 |none=>simp[World.cell?,a]at d
 |some e=>
  cases e with
  |cells c t f=>rw[<-d];exact y8 (w:=u) ((h b c t f a).j a.ai)
  |_=>simp[World.cell?,a]at d
def CK.j{u v w}(h:CK u v)(k:CK v w):CK u w:=λg c t a b=>k g c t a (h g c t a b)
def CK.ab{u w}(h:Bw u w):CK u w:=λg _ _ _ a=>(h.block g (As a)).j a
def JN(w:World)(nb:Nat)(ng nd up hv:Value)(at_:Nat)(ta:Option Addr)(n tc tb:Nat):Prop:=w.heap[nb]?=some (.cells #[ng,.int .i64 (at_:Int),nd,.slice ta n tc,up,.map (some tb),hv] 339 (0,0))
set_option maxHeartbeats 3200000 in
def iN(nb ng nd up hv at_ ta tc tb ts p0 p1 p2 pf T f s w)(hq:JN w nb ng nd up hv at_ ta ts.length tc tb)(hJ:DQ w ta ts)(hT:Ej w (.pointer p0) (.pointer p1) (.pointer p2) T)(hF:Ee w (.pointer pf) f)(hl:ts.length<=1048576)(hfit:∀t∈ts,t.fits T f)(ao:at_<3)(fn r)(hH:Ht hv fn r)(Q:World->World->Prop)(hQ:∀u u',Q u u'->CK u u')(aj:ts.all (Aq T f)=true->∀u,Bw w u->Ca fn #[Pn r,.agg (Hi at_ (.pointer pf) (.pointer p0) (.pointer p1) (.pointer p2)),I6 s] u λe w'=>e=.returned (.tuple #[])/\Q u w') :
  Ca 326 #[Pn nb,.agg #[.pointer p0,.pointer p1,.pointer p2],.pointer pf,I6 s] w λe w'=>e=.returned (.tuple #[])/\((ts.all (Aq T f)=false/\Bw w w')∨(ts.all (Aq T f)=true/\∃u,Bw w u/\Q u w')):=by
 obtain⟨HA,HY,ak,HQ⟩:=BE (λu(hu:Bw w u)=>MQ ng (I6 (at_:Int)) nd (.pointer p0) (.pointer p1) (.pointer p2) (.pointer pf) ts ta tc T f u (hJ.J hu) (hT.J hu) (hF.J hu) hl hfit) aj hQ hq;clear hJ hT hF hfit aj hq hQ;go_enter func326,ntmps326;go_upto_region 1 with fail;refine Bt ?_;intro w1 aq ar;have q1:=(aq.block nb (As HQ.o)).j HQ.o;have n0:=AF (L:=[_,_,_,_,_,_,_]) q1 (j:=0) rfl;have n1:=AF (L:=[_,_,_,_,_,_,_]) q1 (j:=1) rfl;have n2:=AF (L:=[_,_,_,_,_,_,_]) q1 (j:=2) rfl;have n3:=AF (L:=[_,_,_,_,_,_,_]) q1 (j:=3) rfl;have n6:=AF (L:=[_,_,_,_,_,_,_]) q1 (j:=6) rfl;obtain⟨t0,t1,t2⟩:=C7 ar rfl;have HW:=Aa aq;clear q1 ar aq HQ
 cases ha:ts.all (Aq T f)
 .rw[ha]at HA
  go_region_held3 (λu=>At u nb 0 ng/\At u nb 1 (I6 (at_:Int))/\At u nb 2 nd/\At u nb 3 (.slice ta ts.length tc)/\At u nb 6 hv/\At u w.heap.size 0 (.pointer p0)/\At u w.heap.size 1 (.pointer p1)/\At u w.heap.size 2 (.pointer p2))
   ((go_split_ands;first|done|(refine⟨?_,?_,?_,?_,?_,?_,?_,?_⟩<;>first|assumption|with_reducible exact zab O qj|with_reducible exact zab ai qj|exact zab Aj.drew qj))) (first|(go_at_call 113;refine(HA.o _ HW.o.drew).an λw2 ai=>?_)|fail)
  go_wp2_with fail;exact bodyPost_end (results_none rfl _ _ _) rfl ⟨rfl,.inl ⟨ha,HW.o.drew.aj ai⟩⟩
 rw[ha]at HA
 go_region_held3 (λu=>At u nb 0 ng/\At u nb 1 (I6 (at_:Int))/\At u nb 2 nd/\At u nb 3 (.slice ta ts.length tc)/\At u nb 6 hv/\At u w.heap.size 0 (.pointer p0)/\At u w.heap.size 1 (.pointer p1)/\At u w.heap.size 2 (.pointer p2))
  ((go_split_ands;first|done|(refine⟨?_,?_,?_,?_,?_,?_,?_,?_⟩<;>first|assumption|with_reducible exact zab O qj|with_reducible exact zab ai qj|exact zab Aj.drew qj))) (first|(go_at_call 113;refine(HA.o _ HW.o.drew).an λw2 ai=>?_)|fail)
 rename_i hh;obtain⟨_,m1,_,_,m6,v0,v1,v2⟩:=hh;have am:=Aa (HW.o.drew.aj ai);clear n0 n1 n2 n3 n6 t0 t1 t2 ai HA HW;go_wp2_with fail;rcases hH with⟨rfl,rfl⟩|⟨rfl,rfl⟩|⟨rfl,rfl⟩
 focus
  have hm:=λu=>PV r u
  go_region_held3 (λu=>At u nb 1 (I6 (at_:Int))∧At u nb 6 (.func (.method "loop.example/s01311/impl.take") #[.iface 337 (Pn r)] #[])∧At u w.heap.size 0 (.pointer p0)∧At u w.heap.size 1 (.pointer p1)∧At u w.heap.size 2 (.pointer p2))
   ((go_split_ands;first|done|(refine⟨?_,?_,?_,?_,?_⟩<;>first|assumption|with_reducible exact CK.cell Y qj|with_reducible exact zab O qj|exact zab Aj.drew qj))) (first|(go_at_call 114;refine(SQ p0 p1 p2 pf at_ _ ao).an λw3 O=>?_;have ah:=Aa (am.o.drew.aj O))|(go_at_call 325;refine(HY.o ha w3 ah.o).an λw4 af=>?_;have Y:=ak.o _ _ af)|fail)
 rotate_left
 focus
  have hm:=λu=>PO r u
  go_region_held3 (λu=>At u nb 1 (I6 (at_:Int))∧At u nb 6 (.func (.method "loop.example/s01311/impl.take") #[.iface 334 (Pn r)] #[])∧At u w.heap.size 0 (.pointer p0)∧At u w.heap.size 1 (.pointer p1)∧At u w.heap.size 2 (.pointer p2))
   ((go_split_ands;first|done|(refine⟨?_,?_,?_,?_,?_⟩<;>first|assumption|with_reducible exact CK.cell Y qj|with_reducible exact zab O qj|exact zab Aj.drew qj))) (first|(go_at_call 114;refine(SQ p0 p1 p2 pf at_ _ ao).an λw3 O=>?_;have ah:=Aa (am.o.drew.aj O))|(go_at_call 320;refine(HY.o ha w3 ah.o).an λw4 af=>?_;have Y:=ak.o _ _ af)|fail)
 rotate_left
 focus
  go_region_held3 (λu=>At u nb 1 (I6 (at_:Int))/\At u nb 6 (.func (.func 155) #[Pn r] #[])/\At u w.heap.size 0 (.pointer p0)/\At u w.heap.size 1 (.pointer p1)/\At u w.heap.size 2 (.pointer p2))
   ((go_split_ands;first|done|(refine⟨?_,?_,?_,?_,?_⟩<;>first|assumption|with_reducible exact CK.cell Y qj|with_reducible exact zab O qj|exact zab Aj.drew qj))) (first|(go_at_call 114;refine(SQ p0 p1 p2 pf at_ _ ao).an λw3 O=>?_;have ah:=Aa (am.o.drew.aj O))|(go_at_call 155;refine(HY.o ha w3 ah.o).an λw4 af=>?_;have Y:=ak.o _ _ af)|fail)
 rotate_left
 all_goals
  go_wp2_with fail;exact bodyPost_end (results_none rfl _ _ _) rfl ⟨rfl,.inr ⟨ha,w3,ah.o,af⟩⟩
end Go.Proofs.YtikojfajahnhgaaGreat
