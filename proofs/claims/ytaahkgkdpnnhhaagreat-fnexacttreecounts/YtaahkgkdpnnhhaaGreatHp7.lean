import Derived.Test.YtaahkgkdpnnhhaaGreatHp3
set_option maxHeartbeats 9999999
set_option maxRecDepth 99999
set_option linter.all false
namespace Go.Proofs.YtaahkgkdpnnhhaaGreat
open Go.RowKit Fo
theorem zG(w:World){g gv:Nat}{cs cs':Array Value}{t t':TypeId}(hx:IsC w g cs t)(hv:IsC w gv cs' t')(hgv:gv≠g)(o o' n n' c c':Nat)(hn:0<n)(hn':0<n'):
  (Extern.SlicesOverlaps.overlaps #[106,106] #[4] #[.slice (some ⟨gv,o,none⟩) n c,.slice (some ⟨g,o',none⟩) n' c']).run Tryz.prog w=.ok (.bool false) w:=by
 obtain⟨i0,hi,h3,_,_⟩:=pV;have f1:∀k,w.frozen? ⟨g,k,none⟩=false:=fun k=>hx.frozen k;have f2:∀k,w.frozen? ⟨gv,k,none⟩=false:=fun k=>hv.frozen k;have s1:w.shape? g=some (t,cs.size):=by unfold IsC at hx;simp[World.shape?,hx]
 have s2:w.shape? gv=some (t',cs'.size):=by unfold IsC at hv;simp[World.shape?,hv]
 have hne:(gv == g)=false:=by simp[hgv]
 have z1:¬n=0:=by omega
 have z2:¬n'=0:=by omega
 rw[show Extern.SlicesOverlaps.overlaps #[106,106] #[4] #[.slice (some ⟨gv,o,none⟩) n c,.slice (some ⟨g,o',none⟩) n' c']=(underlying 106 >>= _)from rfl];simp[run_underlying Tryz.underlying106,sizeOf,typeInfo,hi,h3,hgv,f1,f2,s1,s2,noView,viewAt,mayBeOne,stringish,z1,z2,hne]
theorem zJ(g:Nat)(es junk vs:List E3)(gv o c i:Nat)(xs:List E3)(w:World)(hx:IsC w g (bX (es++junk)) 110)(hxv:IsC w gv (bX xs) 110)(hlv:o+vs.length≤xs.length)(hev:(xs.drop o).take vs.length=vs)(hgv:gv≠g)(hi:i<es.length)(h0:0<vs.length)(h20:es.length+vs.length≤10)(hroom:vs.length≤junk.length)(hm:es.length+junk.length≤maxLen):
  Calls Tryz.prog 120 #[.slice (some ⟨g,0,none⟩) es.length (es.length+junk.length),.int .i64 i,.slice (some ⟨gv,o*3,none⟩) vs.length c] w fun e w'=>∃u,e=.returned u∧zZ w w' (some g) u (es.take i++vs++es.drop i):=by
 have hm':es.length+junk.length≤9223372036854775807:=by simp[maxLen]at hm;omega
 have hdl:(es.drop i).length=es.length-i:=List.length_drop;obtain⟨p,hp⟩:∃p,p=i+vs.length:=⟨_,rfl⟩;have hz:((vs.length:Int) == 0)=false:=by rw[beq_eq_false_iff_ne];omega
 have hne:((i:Int) ==(es.length:Int))=false:=by rw[beq_eq_false_iff_ne];omega
 have hgt:decide ((es.length:Int)+(junk.length:Int) <(es.length:Int)+(vs.length:Int))=false:=by rw[decide_eq_false_iff_not];omega
 have hb1:(i:Int)≤(es.length:Int)+(junk.length:Int):=by omega
 have hb2:(es.length:Int)+(vs.length:Int)≤(es.length:Int)+(junk.length:Int):=by omega
 have n1:¬es.length+junk.length=i:=by omega
 have hpi:(i:Int)+(vs.length:Int)=(p:Int):=by omega
 have hpw:IntKind.i64.wrap (p:Int)=(p:Int):=by rw[IntKind.wrap_i64];omega
 have n3:¬es.length+junk.length=p:=by omega
 have n4:(p:Int)≤(es.length:Int)+(vs.length:Int):=by omega
 have hile:i≤es.length:=by omega
 have HP:Hid (p=i+vs.length):=hp;have h139:=@run_callFunc_extern Tryz.prog 139 _ (Extern.SlicesOverlaps.overlaps #[106,106] #[4]) Tryz.func139 (by kernel_rfl) (by kernel_rfl) (by kernel_rfl) (by kernel_rfl);have hov:=zG w hx hxv hgv (o*3) (p*3) vs.length (es.length+vs.length-p) c (es.length+junk.length-p) h0 (by omega);have hel:(es++junk).length=es.length+junk.length:=lP;have hcp1:∀ty,(Builtin.copy_ #[106,106] ty #[.slice (some ⟨g,p*3,none⟩) (es.length+vs.length-p) (es.length+junk.length-p),.slice (some ⟨g,i*3,none⟩) (es.length+vs.length-i) (es.length+junk.length-i)]).run Tryz.prog w.drew=.ok (goInt ((es.length-i:Nat):Int)) (w.drew.setCells g (p*3) ((es.drop i).flatMap aJ)):=fun ty=>by
  have hmin:Nat.min (es.length+vs.length-i) (es.length+vs.length-p)=es.length-i:=(Nat.min_eq_right (by omega)).trans (by omega);have:=lS w.drew ty g (p*3) (es.length+vs.length-p) (es.length+junk.length-p) ⟨g,i*3,none⟩ (es.length+vs.length-i) (es.length+junk.length-i) ((es.drop i).flatMap aJ) (by rw[aG,hmin,hdl])
   (Esl.cells (es:=es.drop i) hx.drew (by rw[hdl,hel];omega) (by rw[hdl,List.drop_append_of_le_length (by omega),List.take_append_of_le_length (by rw[hdl];exact nR _),List.take_of_length_le (by rw[hdl];exact nR _)]))
   (fun j hj=>by rw[aG,hdl]at hj;rw[hx.drew.cell,Array.getElem?_eq_getElem (by rw[fX,hel];omega)];rfl) (fun j hj=>hx.drew.frozen _) (eL _)
  rw[hmin]at this;exact this
 obtain⟨W2,hW2⟩:∃W2,W2=w.drew.setCells g (p*3) ((es.drop i).flatMap aJ):=⟨_,rfl⟩;rw[←hW2]at hcp1;have hX2:IsC W2 g (bX (spl (es++junk) p (es.drop i))) 110:=by
  have:=IsC.sets ((es.drop i).flatMap aJ) (cs:=(es++junk).flatMap aJ) (p*3) hx.drew (by rw[aG,aG,hel,hdl];omega)
  rw[gI]at this;rw[hW2];exact this
 have hF2:Frm (fun k=>some g=some k) w W2:=by rw[hW2];exact(Frm.drew _ w).trans (Frm.sets (S:=fun k=>some g=some k) _ rfl _ _)
 have hxv2:IsC W2 gv (bX xs) 110:=hxv.frm hF2 (by simpa using Ne.symm hgv);have hs2l:(spl (es++junk) p (es.drop i)).length=es.length+junk.length:=by rw[aCK _ _ _ (by rw[hel,hdl];omega)];exact hel
 clear hW2;have hcp2:∀ty,(Builtin.copy_ #[106,106] ty #[.slice (some ⟨g,i*3,none⟩) (es.length+vs.length-i) (es.length+junk.length-i),.slice (some ⟨gv,o*3,none⟩) vs.length c]).run Tryz.prog W2=.ok (goInt vs.length) (W2.setCells g (i*3) (vs.flatMap aJ)):=fun ty=>by
  have hmin:Nat.min vs.length (es.length+vs.length-i)=vs.length:=Nat.min_eq_left (by omega);have:=lS W2 ty g (i*3) (es.length+vs.length-i) (es.length+junk.length-i) ⟨gv,o*3,none⟩ vs.length c (vs.flatMap aJ) (by rw[aG,hmin]) (Esl.cells hxv2 hlv hev)
   (fun j hj=>by rw[aG]at hj;rw[hX2.cell,Array.getElem?_eq_getElem (by rw[fX,hs2l];omega)];rfl) (fun j hj=>hX2.frozen _) (eL _)
  rw[hmin]at this;exact this
 have hb5:(i:Int)≤(es.length:Int)+(vs.length:Int):=by omega
 have hb6:i≤es.length+vs.length:=by omega
 clear hp;go_enter Tryz.func120,Tryz.ntmps120;go_wp2_with fail;go_region_law (fail);go_wp2;go_ret;have e1:=HP.out;have htl:(es.take i).length=i:=by rw[List.length_take];omega
 have hfin:=IsC.sets (vs.flatMap aJ) (cs:=(spl (es++junk) p (es.drop i)).flatMap aJ) (i*3) hX2 (by rw[aG,aG,hs2l];omega);rw[gI]at hfin;have hlist:spl (spl (es++junk) p (es.drop i)) i vs=es.take i++vs++es.drop i++junk.drop vs.length:=by
  have tl:∀(A Y:List E3) (n:Nat),A.length=n→(A++Y).take n=A:=fun A Y n h=>by rw[←h];exact List.take_left
  have dl:∀(A Y:List E3) (n:Nat),A.length=n→(A++Y).drop n=Y:=fun A Y n h=>by rw[←h];exact List.drop_left
  have h1:(es++junk).take p=es.take i++(((es++junk).take p).drop i):=by
   have:((es++junk).take p).take i=es.take i:=by rw[List.take_take,show min i p=i by omega,List.take_append_of_le_length (by omega)]
   rw[←this,List.take_append_drop]
  have h2:(((es++junk).take p).drop i).length=vs.length:=by rw[List.length_drop,List.length_take,hel];omega
  have h3:(es++junk).drop (p+(es.drop i).length)=junk.drop vs.length:=by
   rw[hdl,show p+(es.length-i)=es.length+vs.length by omega,←List.drop_drop];congr 1;exact dl _ _ _ rfl
  generalize ((es++junk).take p).drop i=Y at h1 h2;have hA:spl (es++junk) p (es.drop i)=es.take i++(Y++(es.drop i++junk.drop vs.length)):=by
   unfold spl;rw[h3,h1];simp
  rw[hA];unfold spl;rw[tl _ _ _ htl,←List.drop_drop,dl _ _ _ htl,dl _ _ _ h2];simp
 rw[hlist]at hfin;have hl:(es.take i++vs++es.drop i).length=es.length+vs.length:=by simp only[lP,htl,hdl];omega
 refine⟨_,rfl,⟨some g,junk.drop vs.length,?_,fun g' q=>?_,by simp,?_⟩,?_⟩
 ·rw[hl];simp[adr];omega
 ·cases q;exact⟨hfin,.inl rfl⟩
 ·rw[hl];simp;omega
 ·exact hF2.trans (Frm.sets (S:=fun k=>some g=some k) _ rfl _ _)
theorem jT(a:Option Nat)(es junk vs:List E3)(b:Option Addr)(c i:Nat)(w:World)(ha:∀g,a=some g→IsC w g (bX (es++junk)) 110)(hn:a=none→es=[]∧junk=[])(hv:Esl w (.slice b vs.length c) vs)(hoff:aMC (.slice b vs.length c) a)(hi:i≤es.length)(h0:0<vs.length)(h20:es.length+vs.length≤10)(hm:es.length+junk.length≤maxLen):
  Calls Tryz.prog 120 #[.slice (adr a) es.length (es.length+junk.length),.int .i64 i,.slice b vs.length c] w fun e w'=>∃u,e=.returned u∧zZ w w' a u (es.take i++vs++es.drop i):=by
 by_cases he:i=es.length
 ·subst he
  have:=aAX a es junk vs (.slice b vs.length c) w ha hn hv ⟨b,c,rfl⟩ h0 h20 hm
  rw[List.take_of_length_le (nR _),List.drop_of_length_le (nR _),List.append_nil];exact this
 ·cases a with
  | none=>obtain⟨rfl,_⟩:=hn rfl;exact absurd (by simpa using hi:i=0) (by simpa using he)
  | some g=>
   by_cases hr:junk.length<vs.length
   ·exact xS g es junk vs b c i w (ha g rfl) hv (by omega) h0 h20 hr
   ·rcases hv with⟨_,q⟩ | ⟨gv,o,cap,xs,hv,hxv,hlv,hev⟩
    ·rw[q]at h0;simp at h0
    ·simp only[Value.slice.injEq,true_and]at hv
     obtain⟨rfl,rfl⟩:=hv;exact zJ g es junk vs gv o c i xs w (ha g rfl) hxv hlv hev (fun e=>hoff gv (o*3) vs.length c rfl (by rw[e])) (by omega) h0 h20 (by omega) hm
structure aHH(w w':World)(u:Value)(d:Nd):Prop where
 ex:∃q a junk,u=.pointer (some ⟨q,0,none⟩)∧w.heap.size≤q∧(∀g,a=some g→w.heap.size≤g)∧aM w' q d a junk
 below:Bl w w'
theorem aM.esl{w:World}{q:Nat}{d:Nd}{a:Option Nat}{junk:List E3}(h:aM w q d a junk):Esl w (.slice (adr a) d.2.length (d.2.length+junk.length)) d.2:=by
 cases a with
 | none=>obtain⟨h1,h2⟩:=h.nil rfl;rw[h1,h2];exact .inl ⟨rfl,rfl⟩
 | some g=>exact .inr ⟨g,0,d.2.length+junk.length,d.2++junk,by simp[adr],(h.arr g rfl).1,by simp,by simp⟩
theorem aM.frm{S:Nat→Prop}{w w':World}{q:Nat}{d:Nd}{a:Option Nat}{junk:List E3}(h:aM w q d a junk)(k:Frm S w w')(hq:¬S q)(ha:∀g,a=some g→¬S g):aM w' q d a junk:=
 ⟨h.box.frm k hq,fun g e=>⟨(h.arr g e).1.frm k (ha g e),(h.arr g e).2⟩,h.nil,h.small⟩
theorem aM.below{w w':World}{q:Nat}{d:Nd}{a:Option Nat}{junk:List E3}(h:aM w q d a junk)(k:Bl w w'):aM w' q d a junk:=h.frm (S:=fun _=>False) (Frm.of_below k) (fun q=>q) (fun _ _ q=>q)
theorem aHH.box{w w1:World}{a':Option Nat}{junk' es:List E3}(k:Int)(hg:∀g,a'=some g→w.heap.size≤g∧IsC w1 g (bX (es++junk')) 110)(hn:a'=none→es=[]∧junk'=[])(hm:es.length+junk'.length≤maxLen)(hB:Bl w w1):
  aHH w (w1.alloc (.cells #[.int .i64 k,.slice (adr a') es.length (es.length+junk'.length)] 108)) (.pointer (some ⟨w1.heap.size,0,none⟩)) (k,es):=
 ⟨⟨w1.heap.size,a',junk',rfl,hB.size,fun g e=>(hg g e).1,⟨IsC.new _ _ _,fun g e=>⟨(hg g e).2.alloc _,Nat.ne_of_lt (hg g e).2.lt⟩,hn,hm⟩⟩,hB.alloc hB.size _⟩
theorem gQ(W:World)(k:Int)(b:Option Addr)(n c:Nat):(Instr.build 108 #[(0,.int .i64 k),(1,.slice b n c)]).run Tryz.prog W=.ok (.agg #[.int .i64 k,.slice b n c]) W:=by kernel_rfl
theorem aMG(W:World)(k:Int)(b:Option Addr)(n c:Nat):(Instr.box 108 (.agg #[.int .i64 k,.slice b n c])).run Tryz.prog W=.ok (.pointer (some ⟨W.heap.size,0,none⟩)) (W.alloc (.cells #[.int .i64 k,.slice b n c] 108)):=by kernel_rfl
theorem mY(q:Nat)(d:Nd)(a:Option Nat)(junk:List E3)(w:World)(h:aM w q d a junk)(h10:d.2.length≤10):
  Calls Tryz.prog 134 #[.pointer (some ⟨q,0,none⟩)] w fun e w'=>∃u,e=.returned u∧aHH w w' u d:=by
 obtain⟨k,es⟩:=d;have c0:w.cell? ⟨q,0,none⟩=some (.int .i64 k):=by rw[h.box.cell];rfl
 have c1:w.cell? ⟨q,1,none⟩=some (.slice (adr a) es.length (es.length+junk.length)):=by rw[h.box.cell];rfl
 have hcl:=fun W=>oZ (.slice (adr a) es.length (es.length+junk.length)) es W;have hE:=h.esl;have hbd:=gQ;have hbx:=aMG;clear hcl;go_enter Tryz.func134,Tryz.ntmps134;go_wp2_with fail;go_region_law (go_simp;go_at_call 152;refine(oZ _ es _ (by exact hE) h10).mono ?_;rintro e w1 ⟨v',rfl,hN⟩;obtain⟨⟨a',junk',rfl,hg,hn',hm'⟩,hbel⟩:=hN;have hB:Bl w w1:=(bQ w.heap.size w).drew.trans hbel;have d0:w1.cell? ⟨q,0,none⟩=some (.int .i64 k):=(by rw[(h.below hB).box.cell];rfl))
 all_goals go_wp2
 all_goals go_ret
 all_goals exact⟨_,rfl,aHH.box k hg hn' hm' hB⟩
theorem Frm.next{S T:Nat→Prop}{a b c:World}(h:Frm S a b)(k:Frm T b c)(hT:∀x,x<a.heap.size→T x→S x):Frm S a c:=
 ⟨k.os.trans h.os,k.tape.trans h.tape,k.output.trans h.output,lT h.size k.size,fun i hi hn=>(k.block i (lL hi h.size) (fun q=>hn (hT i hi q))).trans (h.block i hi hn)⟩
theorem Frm.put{S:Nat→Prop}{a b:World}(h:Frm S a b)(p:Addr)(v:Value)(hp:p.block<a.heap.size→S p.block):Frm S a (b.setCell p v):=
 h.next (T:=fun x=>x=p.block) (Frm.set (S:=fun x=>x=p.block) b rfl v) (fun x hx e=>by rw[e]at hx ⊢;exact hp hx)
def aBO(e:E3):Value:=.agg #[.string e.1,.string e.2.1,.int .i64 e.2.2]
theorem aM.some{w:World}{q:Nat}{d:Nd}{a:Option Nat}{junk:List E3}(h:aM w q d a junk)(hl:0<d.2.length):∃g,a=some g∧IsC w g (bX (d.2++junk)) 110∧g≠q:=by
 cases a with
 | none=>obtain⟨h1,_⟩:=h.nil rfl;rw[h1]at hl;simp at hl
 | some g=>exact⟨g,rfl,h.arr g rfl⟩
theorem bH{w:World}{g:Nat}{xs:List E3}(h:IsC w g (bX xs) 110){i:Nat}(hi:i<xs.length):w.cell? ⟨g,i*3,none⟩=some (.string (xs.getD i e0).1)∧w.cell? ⟨g,i*3+1,none⟩=some (.string (xs.getD i e0).2.1)∧w.cell? ⟨g,i*3+2,none⟩=some (.int .i64 (xs.getD i e0).2.2):=by
 rw[h.cell,h.cell,h.cell];exact aGH xs hi
theorem gJ(q g:Nat)(k:Int)(es junk:List E3)(i:Nat)(w:World)(h:aM w q (k,es) (some g) junk)(h10:es.length≤10)(hi:i<es.length):
  Calls Tryz.prog 124 #[.pointer (some ⟨q,0,none⟩),.int .i64 i] w fun e w'=>e=.returned (aBO (es.getD i e0))∧(∃junk',aM w' q (k,delE es i) (some g) junk')∧Frm (fun x=>x=q∨x=g) w w':=by
 obtain⟨hx,hgq⟩:=h.arr g rfl;simp only at hx;have hsm:=h.small;simp only at hsm;have hm':es.length+junk.length≤9223372036854775807:=by simp[maxLen]at hsm;omega
 have c1:w.cell? ⟨q,1,none⟩=some (.slice (some ⟨g,0,none⟩) es.length (es.length+junk.length)):=by rw[h.box.cell];rfl
 have hql:=h.box.lt;have hgl:=hx.lt;obtain⟨x0,x1,x2⟩:=bH hx (i:=i) (by rw[lP];omega);have eg:(es++junk).getD i e0=es.getD i e0:=by rw[cV,if_pos hi]
 rw[eg]at x0 x1 x2;generalize es.getD i e0=E at *;obtain⟨ek,ev,ec⟩:=E;simp only at x0 x1 x2;go_enter Tryz.func124,Tryz.ntmps124;go_wp2_with fail;rw[show((i:Int)+1)=((i+1:Nat):Int) by omega];refine(rC g es junk i (i+1) _ ((hx.alloc _).alloc _) (by omega) (by omega) h10 hsm).mono ?_;rintro e w2 ⟨rfl,hI,hF⟩;have hb2:IsC w2 q _ 108:=((h.box.alloc _).alloc _).frm hF (fun e=>hgq e.symm);have r0:=(IsC.new w #[.string {data:=#[]},.string {data:=#[]},.int .i64 0] 110).alloc (.cells #[.string ek,.string ev,.int .i64 ec] 110);have r1:=IsC.new (w.alloc (.cells #[.string {data:=#[]},.string {data:=#[]},.int .i64 0] 110)) #[.string ek,.string ev,.int .i64 ec] 110;rw[World.size_alloc]at r1;have r0:=r0.frm hF (by omega);have r1:=r1.frm hF (by omega);have b1:w2.cell? ⟨q,1,none⟩=some (.slice (some ⟨g,0,none⟩) es.length (es.length+junk.length)):=hb2.c rfl;have b2:=hb2.frozen 1;have y0:w2.cell? ⟨w.heap.size+1,0,none⟩=some (.string ek):=r1.c rfl;have y1:w2.cell? ⟨w.heap.size+1,1,none⟩=some (.string ev):=r1.c rfl;have y2:w2.cell? ⟨w.heap.size+1,2,none⟩=some (.int .i64 ec):=r1.c rfl;have z0:w2.cell? ⟨w.heap.size,0,none⟩=some (.string {data:=#[]}):=r0.c rfl;have z1:w2.cell? ⟨w.heap.size,1,none⟩=some (.string {data:=#[]}):=r0.c rfl;have z2:w2.cell? ⟨w.heap.size,2,none⟩=some (.int .i64 0):=r0.c rfl;have f0:=r0.frozen 0;have f1:=r0.frozen 1;have f2:=r0.frozen 2;have nq1:¬w.heap.size=q:=by omega
 have nq2:¬w.heap.size+1=q:=by omega
 have nq3:¬q=w.heap.size:=by omega
 have nq4:¬q=w.heap.size+1:=by omega
 go_wp2
 refine bodyPost_ret (v:=aBO (ek,ev,ec)) ?_ rfl ?_
 ·simp[results,Tryz.f124,go_sem,aBO,z0,z1,z2]
 ·refine⟨rfl,⟨[e0]++junk,?_,fun g' e=>?_,fun e=>(by cases e),?_⟩,?_⟩
  ·have:=(((hb2.set 1 (.slice (some ⟨g,0,none⟩) (es.length-1) (es.length+junk.length))).set_ne (p:=⟨w.heap.size,0,none⟩) (.string ek) nq3).set_ne (p:=⟨w.heap.size,1,none⟩) (.string ev) nq3).set_ne (p:=⟨w.heap.size,2,none⟩) (.int .i64 ec) nq3
   have e1:(delE es i).length=es.length-1:=bI es i hi;simp only[adr,Option.map_some,e1];have e2:es.length-1+([e0]++junk).length=es.length+junk.length:=by simp;omega
   rw[e2];exact this
  ·cases e
   refine⟨?_,hgq⟩;have e3:es.take i++es.drop (i+1)++(List.replicate (i+1-i) e0++junk)=delE es i++([e0]++junk):=by
    rw[show i+1-i=1 by omega];rfl
   rw[e3]at hI;exact(((hI.set_ne (p:=⟨q,1,none⟩) _ hgq).set_ne (p:=⟨w.heap.size,0,none⟩) (.string ek) (by simp;omega)).set_ne (p:=⟨w.heap.size,1,none⟩) (.string ev) (by simp;omega)).set_ne (p:=⟨w.heap.size,2,none⟩) (.int .i64 ec) (by simp;omega)
  ·have e1:(delE es i).length=es.length-1:=bI es i hi
   simp only[e1];simp;omega
  ·have hA:Frm (fun x=>x=q∨x=g) w w2:=((Frm.alloc _ w _).next (Frm.alloc (fun _=>False) _ _) (fun _ _ q=>q.elim)).next hF (fun x _ e=>.inr e)
   exact(((hA.put ⟨q,1,none⟩ _ (fun _=>.inl rfl)).put ⟨w.heap.size,0,none⟩ _ (fun hh=>by simp at hh)).put ⟨w.heap.size,1,none⟩ _ (fun hh=>by simp at hh)).put ⟨w.heap.size,2,none⟩ _ (fun hh=>by simp at hh)
theorem aDZ{w W w3:World}{q g q1 m:Nat}{k:Int}{es junk j1:List E3}{a1:Option Nat}(h:aM w q (k,es) (some g) junk)(hgq:g≠q)(hB:Bl w W)(hm:m≤es.length)(hq2:w.heap.size≤q1)(hq3:∀x,a1=some x→w.heap.size≤x)(hq4:aM W q1 (k,es.drop m) a1 j1)(hF:Frm (fun x=>x=g) W w3)
  (hI:IsC w3 g (bX (es.take m++es.drop es.length++(List.replicate (es.length-m) e0++junk))) 110) (hsm:es.length+junk.length≤maxLen):
  ∃q' a' j' junk',Ending.returned (.pointer (some ⟨q1,0,none⟩))=.returned (.pointer (some ⟨q',0,none⟩))∧w.heap.size≤q'∧(∀x,a'=some x→w.heap.size≤x)∧aM (w3.setCell ⟨q,1,none⟩ (.slice (some ⟨g,0,none⟩) (es.length -(es.length-m)) (es.length+junk.length))) q' (k,es.drop m) a' j'∧aM (w3.setCell ⟨q,1,none⟩ (.slice (some ⟨g,0,none⟩) (es.length -(es.length-m)) (es.length+junk.length))) q (k,es.take m) (some g) junk'∧Frm (fun x=>x=q∨x=g) w (w3.setCell ⟨q,1,none⟩ (.slice (some ⟨g,0,none⟩) (es.length -(es.length-m)) (es.length+junk.length))):=by
 have hql:=h.box.lt;have hgl:=(h.arr g rfl).1.lt;have hO:=h.below hB;have hs:Frm (fun x=>x=q) w3 (w3.setCell ⟨q,1,none⟩ (.slice (some ⟨g,0,none⟩) (es.length -(es.length-m)) (es.length+junk.length))):=Frm.set (S:=fun x=>x=q) w3 rfl _;have htl:(es.take m).length=m:=by rw[List.length_take];omega
 refine⟨q1,a1,j1,List.replicate (es.length-m) e0++junk,rfl,hq2,hq3,(hq4.frm hF (by omega) (fun x e=>by have:=hq3 x e;omega)).frm hs (by omega) (fun x e=>by have:=hq3 x e;omega),⟨?_,fun x e=>?_,fun e=>(by cases e),?_⟩,?_⟩
 ·have:=(hO.box.frm hF (Ne.symm hgq)).set 1 (.slice (some ⟨g,0,none⟩) (es.length -(es.length-m)) (es.length+junk.length))
  simp only[adr,Option.map_some,htl];have e2:m+(List.replicate (es.length-m) e0++junk).length=es.length+junk.length:=by simp;omega
  rw[e2];have e3:es.length -(es.length-m)=m:=by omega
  rw[e3]at this ⊢;exact this
 ·cases e
  refine⟨?_,hgq⟩;have e4:es.drop es.length=[]:=List.drop_of_length_le (nR _);rw[e4,List.append_nil]at hI;exact hI.set_ne (p:=⟨q,1,none⟩) _ hgq
 ·simp only[htl];simp;omega
 ·exact((Frm.of_below hB).next hF (fun x _ e=>.inr e)).next hs (fun x _ e=>.inl e)
theorem nI(q g:Nat)(k:Int)(es junk:List E3)(w:World)(h:aM w q (k,es) (some g) junk)(h10:es.length≤10)(h3:2<es.length):
  Calls Tryz.prog 136 #[.pointer (some ⟨q,0,none⟩)] w fun e w'=>∃q' a' j' junk',e=.returned (.pointer (some ⟨q',0,none⟩))∧w.heap.size≤q'∧(∀x,a'=some x→w.heap.size≤x)∧aM w' q' (k,es.drop (es.length-2)) a' j'∧aM w' q (k,es.take (es.length-2)) (some g) junk'∧Frm (fun x=>x=q∨x=g) w w':=by
 obtain⟨hx,hgq⟩:=h.arr g rfl;simp only at hx;have hsm:=h.small;simp only at hsm;have hm':es.length+junk.length≤9223372036854775807:=by simp[maxLen]at hsm;omega
 have c0:w.cell? ⟨q,0,none⟩=some (.int .i64 k):=by rw[h.box.cell];rfl
 have c1:w.cell? ⟨q,1,none⟩=some (.slice (some ⟨g,0,none⟩) es.length (es.length+junk.length)):=by rw[h.box.cell];rfl
 have hql:=h.box.lt;have hgl:=hx.lt;obtain⟨m,hm⟩:∃m,m=es.length-2:=⟨_,rfl⟩;rw[←hm];have hds:(es.drop m).length=es.length-m:=List.length_drop;have hE:∀W,IsC W g (bX (es++junk)) 110→Esl W (.slice (some ⟨g,m*3,none⟩) (es.length-m) (es.length+junk.length-m)) (es.drop m):=fun W hW=>.inr ⟨g,m,es.length+junk.length-m,es++junk,by rw[hds],hW,by rw[hds,lP];omega,by rw[hds,List.drop_append_of_le_length (by omega),List.take_append_of_le_length (by rw[hds];exact nR _),List.take_of_length_le (by rw[hds];exact nR _)]⟩;have hE1:=hE w hx;have hd10:(es.drop m).length≤10:=by omega
 have hmi:(es.length:Int)-2=(m:Int):=by omega
 have hmw:IntKind.i64.wrap (m:Int)=(m:Int):=by rw[IntKind.wrap_i64];omega
 have n1:¬es.length+junk.length=m:=by omega
 have n2:(m:Int)≤(es.length:Int):=by omega
 have n3:m≤es.length:=by omega
 have n4:m<es.length:=by omega
 have HM:Hid (m=es.length-2):=hm;have HDS:Hid ((es.drop m).length=es.length-m):=hds;clear hm hds hE;have hbd:=gQ;have hbx:=aMG;go_enter Tryz.func136,Tryz.ntmps136;go_wp2_with fail;go_region_law (go_simp;go_at_call 152;refine(oZ _ (es.drop m) _ (by exact hE1) hd10).mono ?_;rintro e w1 ⟨v',rfl,hN⟩;obtain⟨⟨a',junk',rfl,hg,hn',hmx⟩,hbel⟩:=hN;have hB:Bl w w1:=(bQ w.heap.size w).drew.trans hbel;have d0:w1.cell? ⟨q,0,none⟩=some (.int .i64 k):=(by rw[(h.below hB).box.cell];rfl))
 all_goals go_wp2_with fail
 all_goals
  have hNN:=aHH.box (w:=w) k hg hn' hmx hB;rw[HDS.out]at hNN;generalize hW:(w1.alloc (.cells #[.int .i64 k,.slice (adr a') (es.length-m) (es.length-m+junk'.length)] 108))=W at hNN ⊢;have HS:Hid (w1.heap.size+1=W.heap.size):=by rw[←hW];exact(World.size_alloc _ _).symm
  clear hW;obtain⟨⟨q1,a1,j1,hq1,hq2,hq3,hq4⟩,hB1⟩:=hNN;simp only[Value.pointer.injEq,sJ,Addr.mk.injEq,and_true]at hq1;subst hq1;have hO:=h.below hB1;have u1:W.cell? ⟨q,1,none⟩=some (.slice (some ⟨g,0,none⟩) es.length (es.length+junk.length)):=by rw[hO.box.cell];rfl
  have hxW:=(hO.arr g rfl).1;simp only at hxW;clear hg hn' hmx d0 hbel c0 c1
 all_goals go_region_law (go_simp;go_at_call 144;refine(rC g es junk m es.length _ (by exact hxW) n4 (nR _) h10 hsm).mono ?_;rintro e w3 ⟨rfl,hI,hF⟩;have v1:w3.cell? ⟨q,1,none⟩=some (.slice (some ⟨g,0,none⟩) es.length (es.length+junk.length)):=(by rw[(hO.box.frm (w':=w3) ⟨hF.os,hF.tape,hF.output,hF.size,hF.block⟩ (fun e=>hgq e.symm)).cell];rfl);have v2:=(hO.box.frm (w':=w3) ⟨hF.os,hF.tape,hF.output,hF.size,hF.block⟩ (fun e=>hgq e.symm)).frozen 1)
 all_goals go_wp2
 all_goals go_ret
 all_goals exact aDZ h hgq hB1 n3 hq2 hq3 hq4 ⟨hF.os,hF.tape,hF.output,hF.size,hF.block⟩ hI hsm
def nG(x y:ByteArray):Int:=if kl x y=true then -1 else if kl y x=true then 1 else 0
theorem tF(x:ByteArray)(w:World):Calls Tryz.prog 83 #[.string x] w fun e w'=>e=.returned (.bool false)∧w=w':=by
 have h:(x.toList != x.toList)=false:=by simp
 go_enter Tryz.func83,Tryz.ntmps83
 go_wp2
 go_ret
 exact⟨by simp,rfl⟩
theorem wW(x y:ByteArray)(w:World):Calls Tryz.prog 62 #[.string x,.string y] w fun e w'=>e=.returned (.int .i64 (nG x y))∧w=w':=by
 have HC:Hid (nG x y=if kl x y=true then -1 else if kl y x=true then 1 else 0):=rfl;go_enter Tryz.func62,Tryz.ntmps62;go_wp2_with fail;refine(tF _ _).mono ?_;rintro e w1 ⟨rfl,rfl⟩;go_wp2_with fail;refine(tF _ _).mono ?_;rintro e w1 ⟨rfl,rfl⟩;by_cases h1:Op.bytesLess x.toList y.toList=true
 ·have HE:Hid (nG x y=-1):=by rw[HC.out,if_pos (show kl x y=true from h1)];rfl
  go_wp2
  go_ret
  exact⟨by rw[HE.out];rfl,rfl⟩
 ·have h1':Op.bytesLess x.toList y.toList=false:=by simpa using h1
  have k1:¬kl x y=true:=h1;by_cases h2:x.toList=y.toList
  ·have h2':(x.toList == y.toList)=true:=by simp[h2]
   have HE:Hid (nG x y=0):=by
    have:=gP h2
    subst this;rw[HC.out,eD];rfl
   clear h1 h2 k1;go_wp2;go_ret;exact⟨by rw[HE.out];rfl,rfl⟩
  ·have h2':(x.toList == y.toList)=false:=by simp[h2]
   have HE:Hid (nG x y=1):=by
    rcases kV (Bool.eq_false_iff.2 k1)with q | q
    ·exact absurd (by rw[q]) h2
    ·rw[HC.out,if_neg k1,if_pos q];rfl
   clear h1 h2 k1;go_wp2;go_ret;exact⟨by rw[HE.out];rfl,rfl⟩
theorem xI(x y:ByteArray)(z:Int)(w:World):Calls Tryz.prog 194 #[.agg #[.string x,.string y,.int .i64 z]] w fun e w'=>e=.returned (.string x)∧Bl w w':=by
 have hB:=(bQ w.heap.size w).alloc (nR _) (.cells #[.string x,.string y,.int .i64 z] 110);go_enter Tryz.func194,Tryz.ntmps194;go_wp2;go_ret;exact⟨rfl,hB⟩
theorem sV(v:Value)(w:World):(Go.method 344 110 v "loop.example/s01595/impl.sortKey").run Tryz.prog w=.ok (194,v) w:=by kernel_rfl
theorem oB(x y:ByteArray)(z:Int)(k:ByteArray)(w:World):Calls Tryz.prog 138 #[.agg #[.string x,.string y,.int .i64 z],.string k] w fun e w'=>e=.returned (.int .i64 (nG x k))∧Bl w w':=by
 have hB:=(bQ w.heap.size w).alloc (nR _) (.cells #[.string x,.string y,.int .i64 z] 110);have mS:=sV;go_enter Tryz.func138,Tryz.ntmps138;go_wp2_with fail;refine(xI x y z _).mono ?_;rintro e w1 ⟨rfl,hb1⟩;have hB1:=hB.trans (hb1.mono hB.size);clear hb1;go_wp2_with fail;refine(wW _ _ _).mono ?_;rintro e w2 ⟨rfl,rfl⟩;go_wp2;go_ret;exact⟨rfl,hB1⟩
def NRd(w:World)(v:Value)(es:List E3):Prop:=
 ∃a cap,v=.slice a es.length cap∧(0<es.length→∃b off,a=some ⟨b,off,none⟩∧∀i,i<es.length→w.cell? ⟨b,off+i*3,none⟩=some (.string (es.getD i e0).1)∧w.cell? ⟨b,off+i*3+1,none⟩=some (.string (es.getD i e0).2.1)∧w.cell? ⟨b,off+i*3+2,none⟩=some (.int .i64 (es.getD i e0).2.2))
theorem Esl.nrd{w:World}{v:Value}{es:List E3}(h:Esl w v es):NRd w v es:=by
 rcases h with⟨rfl,rfl⟩ | ⟨g,o,cap,xs,rfl,hx,hl,he⟩
 ·exact⟨none,0,rfl,fun q=>by simp at q⟩
 ·refine⟨_,cap,rfl,fun _=>⟨g,o*3,rfl,fun i hi=>?_⟩⟩
  have hc:=Esl.cells hx hl he;have hadd:∀j,(⟨g,o*3,none⟩:Addr).add j=⟨g,o*3+j,none⟩:=fun j=>by unfold Addr.add;split<;>simp_all
  obtain⟨r1,r2,r3⟩:=lB es hi;have q1:=hc _ _ r1;have q2:=hc _ _ r2;have q3:=hc _ _ r3;rw[hadd]at q1 q2 q3;exact⟨q1,q2,q3⟩
theorem aDU{x y:ByteArray}:(nG x y == 0)=(x.toList == y.toList):=by
 unfold nG;by_cases h1:kl x y=true
 ·rw[if_pos h1]
  have:x.toList≠y.toList:=fun e=>by have:=gP e;subst this;rw[eD]at h1;cases h1
  simp[this]
 ·rw[if_neg h1]
  rcases kV (Bool.eq_false_iff.2 h1)with rfl | h2
  ·rw[eD];simp
  ·rw[if_pos h2]
   have:x.toList≠y.toList:=fun e=>by have:=gP e;subst this;rw[eD]at h2;cases h2
   simp[this]
def kE(rs:List E3)(key:ByteArray)(e:Ending):Prop:=e=.returned (.tuple #[.int .i64 (cLt rs key),.bool (fG rs key)])
theorem aCS{rs:List E3}(hm:Srt rs){key:ByteArray}{i:Nat}(h1:i≤rs.length)(h2:∀a,a<i→kl (rs.getD a e0).1 key=true)(h3:∀a,i≤a→a<rs.length→kl (rs.getD a e0).1 key=false):cLt rs key=i:=by
 have hl:=kU rs key;refine Nat.le_antisymm (Nat.le_of_not_lt fun hlt=>?_) (Nat.le_of_not_lt fun hlt=>?_)
 ·have:=(gV hm key (j:=i) (by omega)).2 hlt
  rw[show ky rs i=(rs.getD i e0).1 from rfl,h3 i (nR _) (by omega)]at this;cases this
 ·have:=(gV hm key (j:=cLt rs key) (by omega)).1 (h2 _ hlt);omega
theorem kE.yes{rs:List E3}(hm:Srt rs){key:ByteArray}{i:Nat}(h1:i<rs.length)(h2:∀a,a<i→kl (rs.getD a e0).1 key=true)(h3:∀a,i≤a→a<rs.length→kl (rs.getD a e0).1 key=false){cv:Int}(hc:nG (rs.getD i e0).1 key=cv):kE rs key (.returned (.tuple #[.int .i64 i,.bool (cv == 0)])):=by
 have e:=aCS hm (by omega) h2 h3;unfold kE fG;rw[e,←hc,aDU];simp[h1,ky]
theorem kE.no{rs:List E3}(hm:Srt rs){key:ByteArray}(h2:∀a,a<rs.length→kl (rs.getD a e0).1 key=true):kE rs key (.returned (.tuple #[.int .i64 rs.length,.bool false])):=by
 have e:=aCS hm (nR _) h2 (fun a h1 h2=>by omega);unfold kE fG;rw[e];simp
theorem yU(v:Value)(rs:List E3)(key:ByteArray)(w:World)(hv:NRd w v rs)(hn:rs.length≤1048576)(hm:Srt rs):
  Calls Tryz.prog 137 #[v,.string key,.func (.func 138) #[] #[]] w fun e w'=>Bl w w'∧kE rs key e:=by
 obtain⟨a,cap,rfl,hc⟩:=hv;go_enter Tryz.func137,Tryz.ntmps137;go_wp2;go_loopw [9,10] (fun u v wr=>∃i j:Nat,i≤j∧j≤rs.length∧u=.int .i64 i∧v=.int .i64 j∧Bl w wr∧(∀a,a<i→kl (rs.getD a e0).1 key=true)∧∀a,j≤a→a<rs.length→kl (rs.getD a e0).1 key=false) (fun u v _=>(intOf v).toNat -(intOf u).toNat)
 case atStart=>exact⟨0,rs.length,Nat.zero_le _,nR _,rfl,rfl,bQ _ _,fun a ha=>by omega,fun a h1 h2=>by omega⟩
 case round=>
  obtain⟨i,j,hij,hj,rfl,rfl,hb,hlo,hhi⟩:=hrel;by_cases hlt:i<j
  ·obtain⟨b,off,rfl,hcell⟩:=hc (by omega)
   have hh1:i≤(i+j) / 2∧(i+j) / 2<j:=by omega
   obtain⟨g1,g2,g3⟩:=hcell ((i+j) / 2) (by omega);have hbw:b<w.heap.size:=World.block_lt_of_cell? _ _ g1;rw[←hb.cell (p:=⟨b,off+(i+j) / 2*3,none⟩) hbw]at g1;rw[←hb.cell (p:=⟨b,off+(i+j) / 2*3+1,none⟩) hbw]at g2;rw[←hb.cell (p:=⟨b,off+(i+j) / 2*3+2,none⟩) hbw]at g3;have hlt':(i:Int) <(j:Int):=by omega
   obtain⟨p,HP⟩:∃p,Hid (rs.getD ((i+j) / 2) e0=p):=⟨_,rfl⟩;rw[HP.out]at g1 g2 g3;obtain⟨x,y,z⟩:=p;simp only at g1 g2 g3;have HLO:Hid (∀a,a<i→kl (rs.getD a e0).1 key=true):=hlo;have HHI:Hid (∀a,j≤a→a<rs.length→kl (rs.getD a e0).1 key=false):=hhi;clear hc hcell hlo hhi;go_wp2_with fail;refine(oB x y z key _).mono ?_;rintro e w1 ⟨rfl,hb1⟩;have hb2:=hb.trans (hb1.mono hb.size);have HC:Hid (nG x key=if kl x key=true then -1 else if kl key x=true then 1 else 0):=rfl;clear g1 g2 g3 hb1 hb;by_cases hx:kl x key=true
   ·rw[HC.out,if_pos hx]
    have HL2:Hid (∀a,a <(i+j) / 2+1→kl (rs.getD a e0).1 key=true):=fun a ha=>by
     by_cases e:a=(i+j) / 2
     ·rw[e,HP.out];exact hx
     ·have:=hm a ((i+j) / 2) (by omega) (by omega)
      rw[show ky rs ((i+j) / 2)=(rs.getD ((i+j) / 2) e0).1 from rfl,HP.out]at this;exact kG this hx
    go_wp2
    go_roundw
    case rel=>exact⟨(i+j) / 2+1,j,by omega,hj,by go_num,rfl,hb2,HL2.out,HHI.out⟩
    case measure=>simp[intOf];omega
   ·have hcn:¬nG x key<0:=by rw[HC.out,if_neg hx];split<;>omega
    have HH2:Hid (∀a,(i+j) / 2≤a→a<rs.length→kl (rs.getD a e0).1 key=false):=fun a h1 h2=>by
     by_cases e:a=(i+j) / 2
     ·rw[e,HP.out];exact Bool.eq_false_iff.2 hx
     ·have:=hm ((i+j) / 2) a (by omega) h2
      rw[show ky rs ((i+j) / 2)=(rs.getD ((i+j) / 2) e0).1 from rfl,HP.out]at this;exact gN (Bool.eq_false_iff.2 hx) (fH this)
    generalize nG x key=cv at *;clear hx;go_wp2;go_roundw
    case rel=>exact⟨i,(i+j) / 2,by omega,by omega,rfl,by go_num,hb2,HLO.out,HH2.out⟩
    case measure=>simp[intOf];omega
  ·have hije:i=j:=by omega
   subst hije;have HLO:Hid (∀a,a<i→kl (rs.getD a e0).1 key=true):=hlo;have HHI:Hid (∀a,i≤a→a<rs.length→kl (rs.getD a e0).1 key=false):=hhi;clear hlo hhi;by_cases hin:i<rs.length
   ·obtain⟨b,off,rfl,hcell⟩:=hc (by omega)
    obtain⟨g1,g2,g3⟩:=hcell i hin;have hbw:b<w.heap.size:=World.block_lt_of_cell? _ _ g1;rw[←hb.cell (p:=⟨b,off+i*3,none⟩) hbw]at g1;rw[←hb.cell (p:=⟨b,off+i*3+1,none⟩) hbw]at g2;rw[←hb.cell (p:=⟨b,off+i*3+2,none⟩) hbw]at g3;have hin':(i:Int) <(rs.length:Int):=by omega
    obtain⟨p,HP⟩:∃p,Hid (rs.getD i e0=p):=⟨_,rfl⟩;rw[HP.out]at g1 g2 g3;obtain⟨x,y,z⟩:=p;simp only at g1 g2 g3;clear hc hcell;go_wp2_with fail;refine(oB x y z key _).mono ?_;rintro e w1 ⟨rfl,hb1⟩;have hb2:=hb.trans (hb1.mono hb.size);have HY:∀cv,nG x key=cv→Hid (kE rs key (.returned (.tuple #[.int .i64 i,.bool (cv == 0)]))):=fun cv hcv=>kE.yes hm hin HLO.out HHI.out (by rw[HP.out];exact hcv);generalize hcv:nG x key=cv at *;have HZ:=HY cv rfl;clear g1 g2 g3 hb1 hb HY hcv;go_wp2;exact bodyPost_ret (v:=.tuple #[.int .i64 i,.bool (cv == 0)]) (by simp[results,Tryz.results137,go_sem]) rfl ⟨hb2,HZ.out⟩
   ·clear hc
    have hin':¬(i:Int) <(rs.length:Int):=by omega
    have hie:i=rs.length:=by omega
    have HZ:Hid (kE rs key (.returned (.tuple #[.int .i64 i,.bool false]))):=(by rw[hie];exact kE.no hm (by rw[←hie];exact HLO.out));clear hie;go_wp2;exact bodyPost_ret (v:=.tuple #[.int .i64 i,.bool false]) (by simp[results,Tryz.results137,go_sem]) rfl ⟨hb,HZ.out⟩
theorem gS(v:Value)(rs:List E3)(key:ByteArray)(w:World)(hv:NRd w v rs)(hn:rs.length≤1048576)(hm:Srt rs):
  Calls Tryz.prog 119 #[v,.string key] w fun e w'=>Bl w w'∧kE rs key e:=by
 obtain⟨a,cap,hve,hc⟩:=id hv;subst hve;have hmf:∀(fn:Fn) (first cap:Array Value) (w:World),(Instr.makeFunc fn first cap).run Tryz.prog w=.ok (.func fn first cap) w:=fun _ _ _ _=>rfl;clear hc;go_enter Tryz.func119,Tryz.ntmps119;go_wp2_with fail;refine(yU _ rs key _ hv hn hm).mono ?_;rintro e w1 ⟨hb1,rfl⟩;go_wp2;exact bodyPost_ret (v:=.tuple #[.int .i64 (cLt rs key),.bool (fG rs key)]) (by simp[results,Tryz.results119,go_sem]) rfl ⟨hb1,rfl⟩
theorem aAM{es:List E3}(hs:Srt es)(key:ByteArray):bK es key=if fG es key=true∨cLt es key=0 then cLt es key else cLt es key-1:=by
 have h1:=kU es key;have h2:=xO es key;unfold bK;by_cases hk:fG es key=true
 ·rw[if_pos (.inl hk)]
  obtain⟨k1,k2⟩:=(dF es key).1 hk;have a:cLt es key<cLe es key:=(fY hs key k1).1 (by rw[k2];exact eD _);have b:¬cLt es key+1<cLe es key:=fun q=>by
   have:=(fY hs key (j:=cLt es key+1) (by omega)).2 q
   have h3:=hs (cLt es key) (cLt es key+1) (by omega) (by omega);rw[k2,this]at h3;cases h3
  omega
 ·have e:cLe es key=cLt es key:=by
   refine Nat.le_antisymm (Nat.le_of_not_lt fun q=>?_) (Nat.le_of_not_lt fun q=>?_)
   ·have a:=(fY hs key (j:=cLt es key) (by omega)).2 q
    rcases kV a with e | e
    ·exact hk ((dF es key).2 ⟨by omega,e.symm⟩)
    ·have:=(gV hs key (j:=cLt es key) (by omega)).1 e;omega
   ·have a:=(gV hs key (j:=cLe es key) (by omega)).2 q
    have:=(fY hs key (j:=cLe es key) (by omega)).1 (fH a);omega
  rw[e];split
  ·rename_i q;rcases q with q | q
   ·exact absurd q hk
   ·omega
  ·rfl
theorem fP(q:Nat)(d:Nd)(a:Option Nat)(junk:List E3)(w:World)(h:aM w q d a junk):
  Calls Tryz.prog 141 #[.pointer (some ⟨q,0,none⟩)] w fun e w'=>e=.returned (.bool (decide (2<d.2.length)))∧w'=w:=by
 have h1:w.cell? ⟨q,1,none⟩=some (.slice (adr a) d.2.length (d.2.length+junk.length)):=by rw[h.box.cell];rfl
 have hs:d.2.length+junk.length≤9223372036854775807:=by have:=h.small;simp[maxLen]at this;omega
 go_enter Tryz.func141,Tryz.ntmps141
 go_wp2
 go_ret
 exact⟨by simp;omega,rfl⟩
theorem gW(q:Nat)(d:Nd)(a:Option Nat)(junk:List E3)(key:ByteArray)(w:World)(h:aM w q d a junk)(hs:Srt d.2)(h10:d.2.length≤10):
  Calls Tryz.prog 121 #[.pointer (some ⟨q,0,none⟩),.string key] w fun e w'=>e=.returned (.int .i64 (bK d.2 key))∧Bl w w':=by
 obtain⟨k,es⟩:=d;simp only at hs h10 ⊢;have h1:w.cell? ⟨q,1,none⟩=some (.slice (adr a) es.length (es.length+junk.length)):=by rw[h.box.cell];rfl
 have HE:Hid (bK es key=if fG es key=true∨cLt es key=0 then cLt es key else cLt es key-1):=aAM hs key;have hN:NRd w (.slice (adr a) es.length (es.length+junk.length)) es:=h.esl.nrd;have hcl:=kU es key;go_enter Tryz.func121,Tryz.ntmps121;go_wp2_with fail;refine(gS _ es key _ hN (by omega) hs).mono ?_;rintro e w1 ⟨hb,rfl⟩;by_cases c1:fG es key=true
 ·have HV:Hid (bK es key=cLt es key):=by rw[HE.out,if_pos (.inl c1)];rfl
  rw[c1];generalize cLt es key=n at *;go_wp2;go_ret;exact⟨by rw[HV.out];simp,hb⟩
 ·have c1':fG es key=false:=Bool.eq_false_iff.2 c1
  by_cases c2:cLt es key=0
  ·have HV:Hid (bK es key=0):=by rw[HE.out,if_pos (.inr c2),c2];rfl
   rw[c1',c2];clear c2;go_wp2;go_ret;exact⟨by rw[HV.out];simp,hb⟩
  ·have HV:Hid (bK es key=cLt es key-1):=by rw[HE.out,if_neg (fun q=>q.elim c1 c2)];rfl
   rw[c1'];generalize cLt es key=n at *;obtain⟨m,rfl⟩:∃m,n=m+1:=⟨n-1,by omega⟩;have c3:(((m+1:Nat):Int) == 0)=false:=by rw[beq_eq_false_iff_ne];omega
   go_wp2
   go_ret
   exact⟨by rw[HV.out];simp,hb⟩
