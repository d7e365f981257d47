import Derived.Maps.OwnSet
import Derived.Maps.Views
import Derived.Test.YtaahkgkdpnnhhaaGreatHp1
set_option maxHeartbeats 9999999
set_option maxRecDepth 99999
set_option linter.all false
namespace Go.Proofs.YtaahkgkdpnnhhaaGreat
open Go.RowKit Fo
variable{key:ByteArray}{es junk rs:List E3}{g i m q:Nat}{φ:Nat→Option Nat}{S:Nat→Prop}{d:Nd}{a:Option Nat}{v:Value}{b w w':World}
theorem zH(w:World){gv:Nat}{cs cs':Array Value}{t t':TypeId}(hx:IsC w g cs t)(hv:IsC w gv cs' t')(Gu:gv≠g)(o o' n n' c c':Nat)(hn:0<n)(Jz:0<n'):
  (Extern.SlicesOverlaps.overlaps #[106,106] #[4] #[.slice (some ⟨gv,o,none⟩) n c,.slice (some ⟨g,o',none⟩) n' c']).run Tryz.prog w=.ok (.bool false) w:=by
 obtain⟨i0,hi,h3,_,_⟩:=pJ;have f1:∀k,w.frozen? ⟨g,k,none⟩=false:=fun k=>hx.frozen k;have f2:∀k,w.frozen? ⟨gv,k,none⟩=false:=fun k=>hv.frozen k;have s1:w.shape? g=some (t,cs.size):=by unfold IsC at hx;simp[World.shape?,hx]
 have s2:w.shape? gv=some (t',cs'.size):=by unfold IsC at hv;simp[World.shape?,hv]
 have av:(gv == g)=false:=by simp[Gu]
 have z1:¬n=0:=by omega
 have z2:¬n'=0:=by omega
 rw[show Extern.SlicesOverlaps.overlaps #[106,106] #[4] #[.slice (some ⟨gv,o,none⟩) n c,.slice (some ⟨g,o',none⟩) n' c']=(underlying 106 >>= _)from rfl];simp[run_underlying Tryz.underlying106,sizeOf,typeInfo,hi,h3,Gu,f1,f2,s1,s2,noView,viewAt,mayBeOne,stringish,z1,z2,av]
theorem yS(g:Nat)(es junk vs:List E3)(gv o c i:Nat)(xs:List E3)(w:World)(hx:IsC w g (bW (es++junk)) 110)(C9:IsC w gv (bW xs) 110)(Mr:o+vs.length≤xs.length)(MX:(xs.drop o).take vs.length=vs)(Gu:gv≠g)(hi:i<es.length)(h0:0<vs.length)(Ah:es.length+vs.length≤10)(jt:vs.length≤junk.length)(hm:es.length+junk.length≤maxLen):
  Calls Tryz.prog 120 #[.slice (some ⟨g,0,none⟩) es.length (es.length+junk.length),.int .i64 i,.slice (some ⟨gv,o*3,none⟩) vs.length c] w fun e w'=>∃u,e=.returned u∧xO w w' (some g) u (es.take i++vs++es.drop i):=by
 have gy:es.length+junk.length≤9223372036854775807:=by simp[maxLen]at hm;omega
 have fe:(es.drop i).length=es.length-i:=List.length_drop;obtain⟨p,hp⟩:∃p,p=i+vs.length:=⟨_,rfl⟩;have hz:((vs.length:Int) == 0)=false:=by rw[beq_eq_false_iff_ne];omega
 have av:((i:Int) ==(es.length:Int))=false:=by rw[beq_eq_false_iff_ne];omega
 have hgt:decide ((es.length:Int)+(junk.length:Int) <(es.length:Int)+(vs.length:Int))=false:=by rw[decide_eq_false_iff_not];omega
 have ao:(i:Int)≤(es.length:Int)+(junk.length:Int):=by omega
 have ba:(es.length:Int)+(vs.length:Int)≤(es.length:Int)+(junk.length:Int):=by omega
 have n1:¬es.length+junk.length=i:=by omega
 have Wu:(i:Int)+(vs.length:Int)=(p:Int):=by omega
 have T0:IntKind.i64.wrap (p:Int)=(p:Int):=by rw[IntKind.wrap_i64];omega
 have n3:¬es.length+junk.length=p:=by omega
 have n4:(p:Int)≤(es.length:Int)+(vs.length:Int):=by omega
 have Q2:i≤es.length:=by omega
 have HP:Hid (p=i+vs.length):=hp;have U5:=@run_callFunc_extern Tryz.prog 139 _ (Extern.SlicesOverlaps.overlaps #[106,106] #[4]) Tryz.func139 (by kernel_rfl) (by kernel_rfl) (by kernel_rfl) (by kernel_rfl);have YO:=zH w hx C9 Gu (o*3) (p*3) vs.length (es.length+vs.length-p) c (es.length+junk.length-p) h0 (by omega);have rh:(es++junk).length=es.length+junk.length:=lP;have EK:∀ty,(Builtin.copy_ #[106,106] ty #[.slice (some ⟨g,p*3,none⟩) (es.length+vs.length-p) (es.length+junk.length-p),.slice (some ⟨g,i*3,none⟩) (es.length+vs.length-i) (es.length+junk.length-i)]).run Tryz.prog w.drew=.ok (goInt ((es.length-i:Nat):Int)) (w.drew.setCells g (p*3) ((es.drop i).flatMap aJ)):=fun ty=>by
  have uj:Nat.min (es.length+vs.length-i) (es.length+vs.length-p)=es.length-i:=(Nat.min_eq_right (by omega)).trans (by omega);have:=lQ w.drew ty g (p*3) (es.length+vs.length-p) (es.length+junk.length-p) ⟨g,i*3,none⟩ (es.length+vs.length-i) (es.length+junk.length-i) ((es.drop i).flatMap aJ) (by rw[aG,uj,fe])
   (Esl.cells (es:=es.drop i) hx.drew (by rw[fe,rh];omega) (by rw[fe,List.drop_append_of_le_length (by omega),List.take_append_of_le_length (by rw[fe];exact nR _),List.take_of_length_le (by rw[fe];exact nR _)]))
   (fun j hj=>by rw[aG,fe]at hj;rw[hx.drew.cell,Array.getElem?_eq_getElem (by rw[fU,rh];omega)];rfl) (fun j hj=>hx.drew.frozen _) (eG _)
  rw[uj]at this;exact this
 obtain⟨W2,uz⟩:∃W2,W2=w.drew.setCells g (p*3) ((es.drop i).flatMap aJ):=⟨_,rfl⟩;rw[←uz]at EK;have fx:IsC W2 g (bW (spl (es++junk) p (es.drop i))) 110:=by
  have:=IsC.sets ((es.drop i).flatMap aJ) (cs:=(es++junk).flatMap aJ) (p*3) hx.drew (by rw[aG,aG,rh,fe];omega)
  rw[gN]at this;rw[uz];exact this
 have du:Frm (fun k=>some g=some k) w W2:=by rw[uz];exact(Frm.drew _ w).trans (Frm.sets (S:=fun k=>some g=some k) _ rfl _ _)
 have R4:IsC W2 gv (bW xs) 110:=C9.frm du (by simpa using Ne.symm Gu);have Eb:(spl (es++junk) p (es.drop i)).length=es.length+junk.length:=by rw[aCY _ _ _ (by rw[rh,fe];omega)];exact rh
 clear uz;have JN:∀ty,(Builtin.copy_ #[106,106] ty #[.slice (some ⟨g,i*3,none⟩) (es.length+vs.length-i) (es.length+junk.length-i),.slice (some ⟨gv,o*3,none⟩) vs.length c]).run Tryz.prog W2=.ok (goInt vs.length) (W2.setCells g (i*3) (vs.flatMap aJ)):=fun ty=>by
  have uj:Nat.min vs.length (es.length+vs.length-i)=vs.length:=Nat.min_eq_left (by omega);have:=lQ W2 ty g (i*3) (es.length+vs.length-i) (es.length+junk.length-i) ⟨gv,o*3,none⟩ vs.length c (vs.flatMap aJ) (by rw[aG,uj]) (Esl.cells R4 Mr MX)
   (fun j hj=>by rw[aG]at hj;rw[fx.cell,Array.getElem?_eq_getElem (by rw[fU,Eb];omega)];rfl) (fun j hj=>fx.frozen _) (eG _)
  rw[uj]at this;exact this
 have et:(i:Int)≤(es.length:Int)+(vs.length:Int):=by omega
 have kj:i≤es.length+vs.length:=by omega
 clear hp;go_enter Tryz.func120,Tryz.ntmps120;go_wp2_with fail;go_region_law (fail);go_wp2;go_ret;have e1:=HP.out;have fw:(es.take i).length=i:=by rw[List.length_take];omega
 have bg:=IsC.sets (vs.flatMap aJ) (cs:=(spl (es++junk) p (es.drop i)).flatMap aJ) (i*3) fx (by rw[aG,aG,Eb];omega);rw[gN]at bg;have AQ:spl (spl (es++junk) p (es.drop i)) i vs=es.take i++vs++es.drop i++junk.drop vs.length:=by
  have tl:∀(A Y:List E3) (n:Nat),A.length=n→(A++Y).take n=A:=fun A Y n h=>by rw[←h];exact List.take_left
  have dl:∀(A Y:List E3) (n:Nat),A.length=n→(A++Y).drop n=Y:=fun A Y n h=>by rw[←h];exact List.drop_left
  have h1:(es++junk).take p=es.take i++(((es++junk).take p).drop i):=by
   have:((es++junk).take p).take i=es.take i:=by rw[List.take_take,show min i p=i by omega,List.take_append_of_le_length (by omega)]
   rw[←this,List.take_append_drop]
  have h2:(((es++junk).take p).drop i).length=vs.length:=by rw[List.length_drop,List.length_take,rh];omega
  have h3:(es++junk).drop (p+(es.drop i).length)=junk.drop vs.length:=by
   rw[fe,show p+(es.length-i)=es.length+vs.length by omega,←List.drop_drop];congr 1;exact dl _ _ _ rfl
  generalize ((es++junk).take p).drop i=Y at h1 h2;have hA:spl (es++junk) p (es.drop i)=es.take i++(Y++(es.drop i++junk.drop vs.length)):=by
   unfold spl;rw[h3,h1];simp
  rw[hA];unfold spl;rw[tl _ _ _ fw,←List.drop_drop,dl _ _ _ fw,dl _ _ _ h2];simp
 rw[AQ]at bg;have hl:(es.take i++vs++es.drop i).length=es.length+vs.length:=by simp only[lP,fw,fe];omega
 refine⟨_,rfl,⟨some g,junk.drop vs.length,?_,fun g' q=>?_,by simp,?_⟩,?_⟩
 ·rw[hl];simp[adr];omega
 ·cases q;exact⟨bg,.inl rfl⟩
 ·rw[hl];simp;omega
 ·exact du.trans (Frm.sets (S:=fun k=>some g=some k) _ rfl _ _)
theorem jU(a:Option Nat)(es junk vs:List E3)(b:Option Addr)(c i:Nat)(w:World)(ha:∀g,a=some g→IsC w g (bW (es++junk)) 110)(hn:a=none→es=[]∧junk=[])(hv:Esl w (.slice b vs.length c) vs)(ul:aLW (.slice b vs.length c) a)(hi:i≤es.length)(h0:0<vs.length)(Ah:es.length+vs.length≤10)(hm:es.length+junk.length≤maxLen):
  Calls Tryz.prog 120 #[.slice (adr a) es.length (es.length+junk.length),.int .i64 i,.slice b vs.length c] w fun e w'=>∃u,e=.returned u∧xO w w' a u (es.take i++vs++es.drop i):=by
 by_cases he:i=es.length
 ·subst he
  have:=aAS a es junk vs (.slice b vs.length c) w ha hn hv ⟨b,c,rfl⟩ h0 Ah hm
  rw[List.take_of_length_le (nR _),List.drop_of_length_le (nR _),List.append_nil];exact this
 ·cases a with
  | none=>obtain⟨rfl,_⟩:=hn rfl;exact absurd (by simpa using hi:i=0) (by simpa using he)
  | some g=>
   by_cases hr:junk.length<vs.length
   ·exact yR g es junk vs b c i w (ha g rfl) hv (by omega) h0 Ah hr
   ·rcases hv with⟨_,q⟩ | ⟨gv,o,cap,xs,hv,C9,Mr,MX⟩
    ·rw[q]at h0;simp at h0
    ·simp only[Value.slice.injEq,true_and]at hv
     obtain⟨rfl,rfl⟩:=hv;exact yS g es junk vs gv o c i xs w (ha g rfl) C9 Mr MX (fun e=>ul gv (o*3) vs.length c rfl (by rw[e])) (by omega) h0 Ah (by omega) hm
structure aFH(w w':World)(u:Value)(d:Nd):Prop where
 ex:∃q a junk,u=.pointer (some ⟨q,0,none⟩)∧w.heap.size≤q∧(∀g,a=some g→w.heap.size≤g)∧aM w' q d a junk
 below:Bl w w'
theorem aM.esl(h:aM w q d a junk):Esl w (.slice (adr a) d.2.length (d.2.length+junk.length)) d.2:=by
 cases a with
 | none=>obtain⟨h1,h2⟩:=h.nil rfl;rw[h1,h2];exact .inl ⟨rfl,rfl⟩
 | some g=>exact .inr ⟨g,0,d.2.length+junk.length,d.2++junk,by simp[adr],(h.arr g rfl).1,by simp,by simp⟩
theorem aM.frm(h:aM w q d a junk)(k:Frm S w w')(hq:¬S q)(ha:∀g,a=some g→¬S g):aM w' q d a junk:=
 ⟨h.box.frm k hq,fun g e=>⟨(h.arr g e).1.frm k (ha g e),(h.arr g e).2⟩,h.nil,h.small⟩
theorem aM.below(h:aM w q d a junk)(k:Bl w w'):aM w' q d a junk:=h.frm (S:=fun _=>False) (Frm.of_below k) (fun q=>q) (fun _ _ q=>q)
theorem aFH.box{w1:World}{a':Option Nat}{junk':List E3}(k:Int)(hg:∀g,a'=some g→w.heap.size≤g∧IsC w1 g (bW (es++junk')) 110)(hn:a'=none→es=[]∧junk'=[])(hm:es.length+junk'.length≤maxLen)(hB:Bl w w1):
  aFH w (w1.alloc (.cells #[.int .i64 k,.slice (adr a') es.length (es.length+junk'.length)] 108)) (.pointer (some ⟨w1.heap.size,0,none⟩)) (k,es):=
 ⟨⟨w1.heap.size,a',junk',rfl,hB.size,fun g e=>(hg g e).1,⟨IsC.new _ _ _,fun g e=>⟨(hg g e).2.alloc _,Nat.ne_of_lt (hg g e).2.lt⟩,hn,hm⟩⟩,hB.alloc hB.size _⟩
theorem gS(W:World)(k:Int)(b:Option Addr)(n c:Nat):(Instr.build 108 #[(0,.int .i64 k),(1,.slice b n c)]).run Tryz.prog W=.ok (.agg #[.int .i64 k,.slice b n c]) W:=by kernel_rfl
theorem aLZ(W:World)(k:Int)(b:Option Addr)(n c:Nat):(Instr.box 108 (.agg #[.int .i64 k,.slice b n c])).run Tryz.prog W=.ok (.pointer (some ⟨W.heap.size,0,none⟩)) (W.alloc (.cells #[.int .i64 k,.slice b n c] 108)):=by kernel_rfl
theorem mE(q:Nat)(d:Nd)(a:Option Nat)(junk:List E3)(w:World)(h:aM w q d a junk)(ft:d.2.length≤10):
  Calls Tryz.prog 134 #[.pointer (some ⟨q,0,none⟩)] w fun e w'=>∃u,e=.returned u∧aFH w w' u d:=by
 obtain⟨k,es⟩:=d;have c0:w.cell? ⟨q,0,none⟩=some (.int .i64 k):=by rw[h.box.cell];rfl
 have c1:w.cell? ⟨q,1,none⟩=some (.slice (adr a) es.length (es.length+junk.length)):=by rw[h.box.cell];rfl
 have au:=fun W=>oS (.slice (adr a) es.length (es.length+junk.length)) es W;have hE:=h.esl;have Gm:=gS;have bo:=aLZ;clear au;go_enter Tryz.func134,Tryz.ntmps134;go_wp2_with fail;go_region_law (go_simp;go_at_call 152;refine(oS _ es _ (by exact hE) ft).mono ?_;rintro e w1 ⟨v',rfl,hN⟩;obtain⟨⟨a',junk',rfl,hg,Jz,gy⟩,BW⟩:=hN;have hB:Bl w w1:=(bQ w.heap.size w).drew.trans BW;have d0:w1.cell? ⟨q,0,none⟩=some (.int .i64 k):=(by rw[(h.below hB).box.cell];rfl))
 all_goals go_wp2
 all_goals go_ret
 all_goals exact⟨_,rfl,aFH.box k hg Jz gy hB⟩
theorem Frm.next{T:Nat→Prop}{a c:World}(h:Frm S a b)(k:Frm T b c)(hT:∀x,x<a.heap.size→T x→S x):Frm S a c:=
 ⟨k.os.trans h.os,k.tape.trans h.tape,k.output.trans h.output,lT h.size k.size,fun i hi hn=>(k.block i (lL hi h.size) (fun q=>hn (hT i hi q))).trans (h.block i hi hn)⟩
theorem Frm.put{a:World}(h:Frm S a b)(p:Addr)(v:Value)(hp:p.block<a.heap.size→S p.block):Frm S a (b.setCell p v):=
 h.next (T:=fun x=>x=p.block) (Frm.set (S:=fun x=>x=p.block) b rfl v) (fun x hx e=>by rw[e]at hx ⊢;exact hp hx)
def aAC(e:E3):Value:=.agg #[.string e.1,.string e.2.1,.int .i64 e.2.2]
theorem aM.some(h:aM w q d a junk)(hl:0<d.2.length):∃g,a=some g∧IsC w g (bW (d.2++junk)) 110∧g≠q:=by
 cases a with
 | none=>obtain⟨h1,_⟩:=h.nil rfl;rw[h1]at hl;simp at hl
 | some g=>exact⟨g,rfl,h.arr g rfl⟩
theorem bG{xs:List E3}(h:IsC w g (bW xs) 110)(hi:i<xs.length):w.cell? ⟨g,i*3,none⟩=some (.string (xs.getD i e0).1)∧w.cell? ⟨g,i*3+1,none⟩=some (.string (xs.getD i e0).2.1)∧w.cell? ⟨g,i*3+2,none⟩=some (.int .i64 (xs.getD i e0).2.2):=by
 rw[h.cell,h.cell,h.cell];exact aHN xs hi
theorem gP(q g:Nat)(k:Int)(es junk:List E3)(i:Nat)(w:World)(h:aM w q (k,es) (some g) junk)(ft:es.length≤10)(hi:i<es.length):
  Calls Tryz.prog 124 #[.pointer (some ⟨q,0,none⟩),.int .i64 i] w fun e w'=>e=.returned (aAC (es.getD i e0))∧(∃junk',aM w' q (k,delE es i) (some g) junk')∧Frm (fun x=>x=q∨x=g) w w':=by
 obtain⟨hx,Bf⟩:=h.arr g rfl;simp only at hx;have lq:=h.small;simp only at lq;have gy:es.length+junk.length≤9223372036854775807:=by simp[maxLen]at lq;omega
 have c1:w.cell? ⟨q,1,none⟩=some (.slice (some ⟨g,0,none⟩) es.length (es.length+junk.length)):=by rw[h.box.cell];rfl
 have C2:=h.box.lt;have E6:=hx.lt;obtain⟨x0,x1,x2⟩:=bG hx (i:=i) (by rw[lP];omega);have eg:(es++junk).getD i e0=es.getD i e0:=by rw[cX,if_pos hi]
 rw[eg]at x0 x1 x2;generalize es.getD i e0=E at *;obtain⟨ek,ev,ec⟩:=E;simp only at x0 x1 x2;go_enter Tryz.func124,Tryz.ntmps124;go_wp2_with fail;rw[show((i:Int)+1)=((i+1:Nat):Int) by omega];refine(rH g es junk i (i+1) _ ((hx.alloc _).alloc _) (by omega) (by omega) ft lq).mono ?_;rintro e w2 ⟨rfl,hI,hF⟩;have ba:IsC w2 q _ 108:=((h.box.alloc _).alloc _).frm hF (fun e=>Bf e.symm);have r0:=(IsC.new w #[.string {data:=#[]},.string {data:=#[]},.int .i64 0] 110).alloc (.cells #[.string ek,.string ev,.int .i64 ec] 110);have r1:=IsC.new (w.alloc (.cells #[.string {data:=#[]},.string {data:=#[]},.int .i64 0] 110)) #[.string ek,.string ev,.int .i64 ec] 110;rw[World.size_alloc]at r1;have r0:=r0.frm hF (by omega);have r1:=r1.frm hF (by omega);have b1:w2.cell? ⟨q,1,none⟩=some (.slice (some ⟨g,0,none⟩) es.length (es.length+junk.length)):=ba.c rfl;have b2:=ba.frozen 1;have y0:w2.cell? ⟨w.heap.size+1,0,none⟩=some (.string ek):=r1.c rfl;have y1:w2.cell? ⟨w.heap.size+1,1,none⟩=some (.string ev):=r1.c rfl;have y2:w2.cell? ⟨w.heap.size+1,2,none⟩=some (.int .i64 ec):=r1.c rfl;have z0:w2.cell? ⟨w.heap.size,0,none⟩=some (.string {data:=#[]}):=r0.c rfl;have z1:w2.cell? ⟨w.heap.size,1,none⟩=some (.string {data:=#[]}):=r0.c rfl;have z2:w2.cell? ⟨w.heap.size,2,none⟩=some (.int .i64 0):=r0.c rfl;have f0:=r0.frozen 0;have f1:=r0.frozen 1;have f2:=r0.frozen 2;have nq1:¬w.heap.size=q:=by omega
 have nq2:¬w.heap.size+1=q:=by omega
 have nq3:¬q=w.heap.size:=by omega
 have nq4:¬q=w.heap.size+1:=by omega
 go_wp2
 refine bodyPost_ret (v:=aAC (ek,ev,ec)) ?_ rfl ?_
 ·simp[results,Tryz.f124,go_sem,aAC,z0,z1,z2]
 ·refine⟨rfl,⟨[e0]++junk,?_,fun g' e=>?_,fun e=>(by cases e),?_⟩,?_⟩
  ·have:=(((ba.set 1 (.slice (some ⟨g,0,none⟩) (es.length-1) (es.length+junk.length))).set_ne (p:=⟨w.heap.size,0,none⟩) (.string ek) nq3).set_ne (p:=⟨w.heap.size,1,none⟩) (.string ev) nq3).set_ne (p:=⟨w.heap.size,2,none⟩) (.int .i64 ec) nq3
   have e1:(delE es i).length=es.length-1:=bH es i hi;simp only[adr,Option.map_some,e1];have e2:es.length-1+([e0]++junk).length=es.length+junk.length:=by simp;omega
   rw[e2];exact this
  ·cases e
   refine⟨?_,Bf⟩;have e3:es.take i++es.drop (i+1)++(List.replicate (i+1-i) e0++junk)=delE es i++([e0]++junk):=by
    rw[show i+1-i=1 by omega];rfl
   rw[e3]at hI;exact(((hI.set_ne (p:=⟨q,1,none⟩) _ Bf).set_ne (p:=⟨w.heap.size,0,none⟩) (.string ek) (by simp;omega)).set_ne (p:=⟨w.heap.size,1,none⟩) (.string ev) (by simp;omega)).set_ne (p:=⟨w.heap.size,2,none⟩) (.int .i64 ec) (by simp;omega)
  ·have e1:(delE es i).length=es.length-1:=bH es i hi
   simp only[e1];simp;omega
  ·have hA:Frm (fun x=>x=q∨x=g) w w2:=((Frm.alloc _ w _).next (Frm.alloc (fun _=>False) _ _) (fun _ _ q=>q.elim)).next hF (fun x _ e=>.inr e)
   exact(((hA.put ⟨q,1,none⟩ _ (fun _=>.inl rfl)).put ⟨w.heap.size,0,none⟩ _ (fun hh=>by simp at hh)).put ⟨w.heap.size,1,none⟩ _ (fun hh=>by simp at hh)).put ⟨w.heap.size,2,none⟩ _ (fun hh=>by simp at hh)
theorem aEW{W w3:World}{q1:Nat}{k:Int}{j1:List E3}{a1:Option Nat}(h:aM w q (k,es) (some g) junk)(Bf:g≠q)(hB:Bl w W)(hm:m≤es.length)(gp:w.heap.size≤q1)(qu:∀x,a1=some x→w.heap.size≤x)(Br:aM W q1 (k,es.drop m) a1 j1)(hF:Frm (fun x=>x=g) W w3)
  (hI:IsC w3 g (bW (es.take m++es.drop es.length++(List.replicate (es.length-m) e0++junk))) 110) (lq:es.length+junk.length≤maxLen):
  ∃q' a' j' junk',Ending.returned (.pointer (some ⟨q1,0,none⟩))=.returned (.pointer (some ⟨q',0,none⟩))∧w.heap.size≤q'∧(∀x,a'=some x→w.heap.size≤x)∧aM (w3.setCell ⟨q,1,none⟩ (.slice (some ⟨g,0,none⟩) (es.length -(es.length-m)) (es.length+junk.length))) q' (k,es.drop m) a' j'∧aM (w3.setCell ⟨q,1,none⟩ (.slice (some ⟨g,0,none⟩) (es.length -(es.length-m)) (es.length+junk.length))) q (k,es.take m) (some g) junk'∧Frm (fun x=>x=q∨x=g) w (w3.setCell ⟨q,1,none⟩ (.slice (some ⟨g,0,none⟩) (es.length -(es.length-m)) (es.length+junk.length))):=by
 have C2:=h.box.lt;have E6:=(h.arr g rfl).1.lt;have hO:=h.below hB;have hs:Frm (fun x=>x=q) w3 (w3.setCell ⟨q,1,none⟩ (.slice (some ⟨g,0,none⟩) (es.length -(es.length-m)) (es.length+junk.length))):=Frm.set (S:=fun x=>x=q) w3 rfl _;have fw:(es.take m).length=m:=by rw[List.length_take];omega
 refine⟨q1,a1,j1,List.replicate (es.length-m) e0++junk,rfl,gp,qu,(Br.frm hF (by omega) (fun x e=>by have:=qu x e;omega)).frm hs (by omega) (fun x e=>by have:=qu x e;omega),⟨?_,fun x e=>?_,fun e=>(by cases e),?_⟩,?_⟩
 ·have:=(hO.box.frm hF (Ne.symm Bf)).set 1 (.slice (some ⟨g,0,none⟩) (es.length -(es.length-m)) (es.length+junk.length))
  simp only[adr,Option.map_some,fw];have e2:m+(List.replicate (es.length-m) e0++junk).length=es.length+junk.length:=by simp;omega
  rw[e2];have e3:es.length -(es.length-m)=m:=by omega
  rw[e3]at this ⊢;exact this
 ·cases e
  refine⟨?_,Bf⟩;have e4:es.drop es.length=[]:=List.drop_of_length_le (nR _);rw[e4,List.append_nil]at hI;exact hI.set_ne (p:=⟨q,1,none⟩) _ Bf
 ·simp only[fw];simp;omega
 ·exact((Frm.of_below hB).next hF (fun x _ e=>.inr e)).next hs (fun x _ e=>.inl e)
theorem oH(q g:Nat)(k:Int)(es junk:List E3)(w:World)(h:aM w q (k,es) (some g) junk)(ft:es.length≤10)(h3:2<es.length):
  Calls Tryz.prog 136 #[.pointer (some ⟨q,0,none⟩)] w fun e w'=>∃q' a' j' junk',e=.returned (.pointer (some ⟨q',0,none⟩))∧w.heap.size≤q'∧(∀x,a'=some x→w.heap.size≤x)∧aM w' q' (k,es.drop (es.length-2)) a' j'∧aM w' q (k,es.take (es.length-2)) (some g) junk'∧Frm (fun x=>x=q∨x=g) w w':=by
 obtain⟨hx,Bf⟩:=h.arr g rfl;simp only at hx;have lq:=h.small;simp only at lq;have gy:es.length+junk.length≤9223372036854775807:=by simp[maxLen]at lq;omega
 have c0:w.cell? ⟨q,0,none⟩=some (.int .i64 k):=by rw[h.box.cell];rfl
 have c1:w.cell? ⟨q,1,none⟩=some (.slice (some ⟨g,0,none⟩) es.length (es.length+junk.length)):=by rw[h.box.cell];rfl
 have C2:=h.box.lt;have E6:=hx.lt;obtain⟨m,hm⟩:∃m,m=es.length-2:=⟨_,rfl⟩;rw[←hm];have iv:(es.drop m).length=es.length-m:=List.length_drop;have hE:∀W,IsC W g (bW (es++junk)) 110→Esl W (.slice (some ⟨g,m*3,none⟩) (es.length-m) (es.length+junk.length-m)) (es.drop m):=fun W hW=>.inr ⟨g,m,es.length+junk.length-m,es++junk,by rw[iv],hW,by rw[iv,lP];omega,by rw[iv,List.drop_append_of_le_length (by omega),List.take_append_of_le_length (by rw[iv];exact nR _),List.take_of_length_le (by rw[iv];exact nR _)]⟩;have Df:=hE w hx;have Qa:(es.drop m).length≤10:=by omega
 have Tt:(es.length:Int)-2=(m:Int):=by omega
 have Tv:IntKind.i64.wrap (m:Int)=(m:Int):=by rw[IntKind.wrap_i64];omega
 have n1:¬es.length+junk.length=m:=by omega
 have n2:(m:Int)≤(es.length:Int):=by omega
 have n3:m≤es.length:=by omega
 have n4:m<es.length:=by omega
 have HM:Hid (m=es.length-2):=hm;have US:Hid ((es.drop m).length=es.length-m):=iv;clear hm iv hE;have Gm:=gS;have bo:=aLZ;go_enter Tryz.func136,Tryz.ntmps136;go_wp2_with fail;go_region_law (go_simp;go_at_call 152;refine(oS _ (es.drop m) _ (by exact Df) Qa).mono ?_;rintro e w1 ⟨v',rfl,hN⟩;obtain⟨⟨a',junk',rfl,hg,Jz,Tw⟩,BW⟩:=hN;have hB:Bl w w1:=(bQ w.heap.size w).drew.trans BW;have d0:w1.cell? ⟨q,0,none⟩=some (.int .i64 k):=(by rw[(h.below hB).box.cell];rfl))
 all_goals go_wp2_with fail
 all_goals
  have Pp:=aFH.box (w:=w) k hg Jz Tw hB;rw[US.out]at Pp;generalize hW:(w1.alloc (.cells #[.int .i64 k,.slice (adr a') (es.length-m) (es.length-m+junk'.length)] 108))=W at Pp ⊢;have HS:Hid (w1.heap.size+1=W.heap.size):=by rw[←hW];exact(World.size_alloc _ _).symm
  clear hW;obtain⟨⟨q1,a1,j1,qt,gp,qu,Br⟩,d9⟩:=Pp;simp only[Value.pointer.injEq,sJ,Addr.mk.injEq,and_true]at qt;subst qt;have hO:=h.below d9;have u1:W.cell? ⟨q,1,none⟩=some (.slice (some ⟨g,0,none⟩) es.length (es.length+junk.length)):=by rw[hO.box.cell];rfl
  have UE:=(hO.arr g rfl).1;simp only at UE;clear hg Jz Tw d0 BW c0 c1
 all_goals go_region_law (go_simp;go_at_call 144;refine(rH g es junk m es.length _ (by exact UE) n4 (nR _) ft lq).mono ?_;rintro e w3 ⟨rfl,hI,hF⟩;have v1:w3.cell? ⟨q,1,none⟩=some (.slice (some ⟨g,0,none⟩) es.length (es.length+junk.length)):=(by rw[(hO.box.frm (w':=w3) ⟨hF.os,hF.tape,hF.output,hF.size,hF.block⟩ (fun e=>Bf e.symm)).cell];rfl);have v2:=(hO.box.frm (w':=w3) ⟨hF.os,hF.tape,hF.output,hF.size,hF.block⟩ (fun e=>Bf e.symm)).frozen 1)
 all_goals go_wp2
 all_goals go_ret
 all_goals exact aEW h Bf d9 n3 gp qu Br ⟨hF.os,hF.tape,hF.output,hF.size,hF.block⟩ hI lq
def mX(x y:ByteArray):Int:=if kl x y=true then -1 else if kl y x=true then 1 else 0
theorem rY(x:ByteArray)(w:World):Calls Tryz.prog 83 #[.string x] w fun e w'=>e=.returned (.bool false)∧w=w':=by
 have h:(x.toList != x.toList)=false:=by simp
 go_enter Tryz.func83,Tryz.ntmps83
 go_wp2
 go_ret
 exact⟨by simp,rfl⟩
theorem wG(x y:ByteArray)(w:World):Calls Tryz.prog 62 #[.string x,.string y] w fun e w'=>e=.returned (.int .i64 (mX x y))∧w=w':=by
 have HC:Hid (mX x y=if kl x y=true then -1 else if kl y x=true then 1 else 0):=rfl;go_enter Tryz.func62,Tryz.ntmps62;go_wp2_with fail;refine(rY _ _).mono ?_;rintro e w1 ⟨rfl,rfl⟩;go_wp2_with fail;refine(rY _ _).mono ?_;rintro e w1 ⟨rfl,rfl⟩;by_cases h1:Op.bytesLess x.toList y.toList=true
 ·have HE:Hid (mX x y=-1):=by rw[HC.out,if_pos (show kl x y=true from h1)];rfl
  go_wp2
  go_ret
  exact⟨by rw[HE.out];rfl,rfl⟩
 ·have N3:Op.bytesLess x.toList y.toList=false:=by simpa using h1
  have k1:¬kl x y=true:=h1;by_cases h2:x.toList=y.toList
  ·have N4:(x.toList == y.toList)=true:=by simp[h2]
   have HE:Hid (mX x y=0):=by
    have:=gR h2
    subst this;rw[HC.out,eD];rfl
   clear h1 h2 k1;go_wp2;go_ret;exact⟨by rw[HE.out];rfl,rfl⟩
  ·have N4:(x.toList == y.toList)=false:=by simp[h2]
   have HE:Hid (mX x y=1):=by
    rcases kW (Bool.eq_false_iff.2 k1)with q | q
    ·exact absurd (by rw[q]) h2
    ·rw[HC.out,if_neg k1,if_pos q];rfl
   clear h1 h2 k1;go_wp2;go_ret;exact⟨by rw[HE.out];rfl,rfl⟩
theorem xH(x y:ByteArray)(z:Int)(w:World):Calls Tryz.prog 194 #[.agg #[.string x,.string y,.int .i64 z]] w fun e w'=>e=.returned (.string x)∧Bl w w':=by
 have hB:=(bQ w.heap.size w).alloc (nR _) (.cells #[.string x,.string y,.int .i64 z] 110);go_enter Tryz.func194,Tryz.ntmps194;go_wp2;go_ret;exact⟨rfl,hB⟩
theorem sL(v:Value)(w:World):(Go.method 344 110 v "loop.example/s01595/impl.sortKey").run Tryz.prog w=.ok (194,v) w:=by kernel_rfl
theorem nZ(x y:ByteArray)(z:Int)(k:ByteArray)(w:World):Calls Tryz.prog 138 #[.agg #[.string x,.string y,.int .i64 z],.string k] w fun e w'=>e=.returned (.int .i64 (mX x k))∧Bl w w':=by
 have hB:=(bQ w.heap.size w).alloc (nR _) (.cells #[.string x,.string y,.int .i64 z] 110);have mS:=sL;go_enter Tryz.func138,Tryz.ntmps138;go_wp2_with fail;refine(xH x y z _).mono ?_;rintro e w1 ⟨rfl,ao⟩;have d9:=hB.trans (ao.mono hB.size);clear ao;go_wp2_with fail;refine(wG _ _ _).mono ?_;rintro e w2 ⟨rfl,rfl⟩;go_wp2;go_ret;exact⟨rfl,d9⟩
def NRd(w:World)(v:Value)(es:List E3):Prop:=
 ∃a cap,v=.slice a es.length cap∧(0<es.length→∃b off,a=some ⟨b,off,none⟩∧∀i,i<es.length→w.cell? ⟨b,off+i*3,none⟩=some (.string (es.getD i e0).1)∧w.cell? ⟨b,off+i*3+1,none⟩=some (.string (es.getD i e0).2.1)∧w.cell? ⟨b,off+i*3+2,none⟩=some (.int .i64 (es.getD i e0).2.2))
theorem Esl.nrd(h:Esl w v es):NRd w v es:=by
 rcases h with⟨rfl,rfl⟩ | ⟨g,o,cap,xs,rfl,hx,hl,he⟩
 ·exact⟨none,0,rfl,fun q=>by simp at q⟩
 ·refine⟨_,cap,rfl,fun _=>⟨g,o*3,rfl,fun i hi=>?_⟩⟩
  have hc:=Esl.cells hx hl he;have ub:∀j,(⟨g,o*3,none⟩:Addr).add j=⟨g,o*3+j,none⟩:=fun j=>by unfold Addr.add;split<;>simp_all
  obtain⟨r1,r2,r3⟩:=kR es hi;have q1:=hc _ _ r1;have q2:=hc _ _ r2;have q3:=hc _ _ r3;rw[ub]at q1 q2 q3;exact⟨q1,q2,q3⟩
theorem aDJ{x y:ByteArray}:(mX x y == 0)=(x.toList == y.toList):=by
 unfold mX;by_cases h1:kl x y=true
 ·rw[if_pos h1]
  have:x.toList≠y.toList:=fun e=>by have:=gR e;subst this;rw[eD]at h1;cases h1
  simp[this]
 ·rw[if_neg h1]
  rcases kW (Bool.eq_false_iff.2 h1)with rfl | h2
  ·rw[eD];simp
  ·rw[if_pos h2]
   have:x.toList≠y.toList:=fun e=>by have:=gR e;subst this;rw[eD]at h2;cases h2
   simp[this]
def kG(rs:List E3)(key:ByteArray)(e:Ending):Prop:=e=.returned (.tuple #[.int .i64 (cLt rs key),.bool (fD rs key)])
theorem aCZ(hm:Srt rs)(h1:i≤rs.length)(h2:∀a,a<i→kl (rs.getD a e0).1 key=true)(h3:∀a,i≤a→a<rs.length→kl (rs.getD a e0).1 key=false):cLt rs key=i:=by
 have hl:=kM rs key;refine Nat.le_antisymm (Nat.le_of_not_lt fun ai=>?_) (Nat.le_of_not_lt fun ai=>?_)
 ·have:=(gW hm key (j:=i) (by omega)).2 ai
  rw[show ky rs i=(rs.getD i e0).1 from rfl,h3 i (nR _) (by omega)]at this;cases this
 ·have:=(gW hm key (j:=cLt rs key) (by omega)).1 (h2 _ ai);omega
theorem kG.yes(hm:Srt rs)(h1:i<rs.length)(h2:∀a,a<i→kl (rs.getD a e0).1 key=true)(h3:∀a,i≤a→a<rs.length→kl (rs.getD a e0).1 key=false){cv:Int}(hc:mX (rs.getD i e0).1 key=cv):kG rs key (.returned (.tuple #[.int .i64 i,.bool (cv == 0)])):=by
 have e:=aCZ hm (by omega) h2 h3;unfold kG fD;rw[e,←hc,aDJ];simp[h1,ky]
theorem kG.no(hm:Srt rs)(h2:∀a,a<rs.length→kl (rs.getD a e0).1 key=true):kG rs key (.returned (.tuple #[.int .i64 rs.length,.bool false])):=by
 have e:=aCZ hm (nR _) h2 (fun a h1 h2=>by omega);unfold kG fD;rw[e];simp
theorem zO(v:Value)(rs:List E3)(key:ByteArray)(w:World)(hv:NRd w v rs)(hn:rs.length≤1048576)(hm:Srt rs):
  Calls Tryz.prog 137 #[v,.string key,.func (.func 138) #[] #[]] w fun e w'=>Bl w w'∧kG rs key e:=by
 obtain⟨a,cap,rfl,hc⟩:=hv;go_enter Tryz.func137,Tryz.ntmps137;go_wp2;go_loopw [9,10] (fun u v wr=>∃i j:Nat,i≤j∧j≤rs.length∧u=.int .i64 i∧v=.int .i64 j∧Bl w wr∧(∀a,a<i→kl (rs.getD a e0).1 key=true)∧∀a,j≤a→a<rs.length→kl (rs.getD a e0).1 key=false) (fun u v _=>(intOf v).toNat -(intOf u).toNat)
 case atStart=>exact⟨0,rs.length,Nat.zero_le _,nR _,rfl,rfl,bQ _ _,fun a ha=>by omega,fun a h1 h2=>by omega⟩
 case round=>
  obtain⟨i,j,im,hj,rfl,rfl,hb,pq,y7⟩:=hrel;by_cases ai:i<j
  ·obtain⟨b,off,rfl,aa⟩:=hc (by omega)
   have WP:i≤(i+j) / 2∧(i+j) / 2<j:=by omega
   obtain⟨g1,g2,g3⟩:=aa ((i+j) / 2) (by omega);have lu:b<w.heap.size:=World.block_lt_of_cell? _ _ g1;rw[←hb.cell (p:=⟨b,off+(i+j) / 2*3,none⟩) lu]at g1;rw[←hb.cell (p:=⟨b,off+(i+j) / 2*3+1,none⟩) lu]at g2;rw[←hb.cell (p:=⟨b,off+(i+j) / 2*3+2,none⟩) lu]at g3;have C0:(i:Int) <(j:Int):=by omega
   obtain⟨p,HP⟩:∃p,Hid (rs.getD ((i+j) / 2) e0=p):=⟨_,rfl⟩;rw[HP.out]at g1 g2 g3;obtain⟨x,y,z⟩:=p;simp only at g1 g2 g3;have zo:Hid (∀a,a<i→kl (rs.getD a e0).1 key=true):=pq;have Gb:Hid (∀a,j≤a→a<rs.length→kl (rs.getD a e0).1 key=false):=y7;clear hc aa pq y7;go_wp2_with fail;refine(nZ x y z key _).mono ?_;rintro e w1 ⟨rfl,ao⟩;have ba:=hb.trans (ao.mono hb.size);have HC:Hid (mX x key=if kl x key=true then -1 else if kl key x=true then 1 else 0):=rfl;clear g1 g2 g3 ao hb;by_cases hx:kl x key=true
   ·rw[HC.out,if_pos hx]
    have Oz:Hid (∀a,a <(i+j) / 2+1→kl (rs.getD a e0).1 key=true):=fun a ha=>by
     by_cases e:a=(i+j) / 2
     ·rw[e,HP.out];exact hx
     ·have:=hm a ((i+j) / 2) (by omega) (by omega)
      rw[show ky rs ((i+j) / 2)=(rs.getD ((i+j) / 2) e0).1 from rfl,HP.out]at this;exact kH this hx
    go_wp2
    go_roundw
    case rel=>exact⟨(i+j) / 2+1,j,by omega,hj,by go_num,rfl,ba,Oz.out,Gb.out⟩
    case measure=>simp[intOf];omega
   ·have JM:¬mX x key<0:=by rw[HC.out,if_neg hx];split<;>omega
    have Ou:Hid (∀a,(i+j) / 2≤a→a<rs.length→kl (rs.getD a e0).1 key=false):=fun a h1 h2=>by
     by_cases e:a=(i+j) / 2
     ·rw[e,HP.out];exact Bool.eq_false_iff.2 hx
     ·have:=hm ((i+j) / 2) a (by omega) h2
      rw[show ky rs ((i+j) / 2)=(rs.getD ((i+j) / 2) e0).1 from rfl,HP.out]at this;exact gL (Bool.eq_false_iff.2 hx) (fE this)
    generalize mX x key=cv at *;clear hx;go_wp2;go_roundw
    case rel=>exact⟨i,(i+j) / 2,by omega,by omega,rfl,by go_num,ba,zo.out,Ou.out⟩
    case measure=>simp[intOf];omega
  ·have Jj:i=j:=by omega
   subst Jj;have zo:Hid (∀a,a<i→kl (rs.getD a e0).1 key=true):=pq;have Gb:Hid (∀a,i≤a→a<rs.length→kl (rs.getD a e0).1 key=false):=y7;clear pq y7;by_cases ku:i<rs.length
   ·obtain⟨b,off,rfl,aa⟩:=hc (by omega)
    obtain⟨g1,g2,g3⟩:=aa i ku;have lu:b<w.heap.size:=World.block_lt_of_cell? _ _ g1;rw[←hb.cell (p:=⟨b,off+i*3,none⟩) lu]at g1;rw[←hb.cell (p:=⟨b,off+i*3+1,none⟩) lu]at g2;rw[←hb.cell (p:=⟨b,off+i*3+2,none⟩) lu]at g3;have Jk:(i:Int) <(rs.length:Int):=by omega
    obtain⟨p,HP⟩:∃p,Hid (rs.getD i e0=p):=⟨_,rfl⟩;rw[HP.out]at g1 g2 g3;obtain⟨x,y,z⟩:=p;simp only at g1 g2 g3;clear hc aa;go_wp2_with fail;refine(nZ x y z key _).mono ?_;rintro e w1 ⟨rfl,ao⟩;have ba:=hb.trans (ao.mono hb.size);have HY:∀cv,mX x key=cv→Hid (kG rs key (.returned (.tuple #[.int .i64 i,.bool (cv == 0)]))):=fun cv sf=>kG.yes hm ku zo.out Gb.out (by rw[HP.out];exact sf);generalize sf:mX x key=cv at *;have HZ:=HY cv rfl;clear g1 g2 g3 ao hb HY sf;go_wp2;exact bodyPost_ret (v:=.tuple #[.int .i64 i,.bool (cv == 0)]) (by simp[results,Tryz.results137,go_sem]) rfl ⟨ba,HZ.out⟩
   ·clear hc
    have Jk:¬(i:Int) <(rs.length:Int):=by omega
    have E7:i=rs.length:=by omega
    have HZ:Hid (kG rs key (.returned (.tuple #[.int .i64 i,.bool false]))):=(by rw[E7];exact kG.no hm (by rw[←E7];exact zo.out));clear E7;go_wp2;exact bodyPost_ret (v:=.tuple #[.int .i64 i,.bool false]) (by simp[results,Tryz.results137,go_sem]) rfl ⟨hb,HZ.out⟩
theorem iD(v:Value)(rs:List E3)(key:ByteArray)(w:World)(hv:NRd w v rs)(hn:rs.length≤1048576)(hm:Srt rs):
  Calls Tryz.prog 119 #[v,.string key] w fun e w'=>Bl w w'∧kG rs key e:=by
 obtain⟨a,cap,iq,hc⟩:=id hv;subst iq;have Mt:∀(fn:Fn) (first cap:Array Value) (w:World),(Instr.makeFunc fn first cap).run Tryz.prog w=.ok (.func fn first cap) w:=fun _ _ _ _=>rfl;clear hc;go_enter Tryz.func119,Tryz.ntmps119;go_wp2_with fail;refine(zO _ rs key _ hv hn hm).mono ?_;rintro e w1 ⟨ao,rfl⟩;go_wp2;exact bodyPost_ret (v:=.tuple #[.int .i64 (cLt rs key),.bool (fD rs key)]) (by simp[results,Tryz.results119,go_sem]) rfl ⟨ao,rfl⟩
theorem aAQ(hs:Srt es)(key:ByteArray):bK es key=if fD es key=true∨cLt es key=0 then cLt es key else cLt es key-1:=by
 have h1:=kM es key;have h2:=wA es key;unfold bK;by_cases hk:fD es key=true
 ·rw[if_pos (.inl hk)]
  obtain⟨k1,k2⟩:=(dJ es key).1 hk;have a:cLt es key<cLe es key:=(fY hs key k1).1 (by rw[k2];exact eD _);have b:¬cLt es key+1<cLe es key:=fun q=>by
   have:=(fY hs key (j:=cLt es key+1) (by omega)).2 q
   have h3:=hs (cLt es key) (cLt es key+1) (by omega) (by omega);rw[k2,this]at h3;cases h3
  omega
 ·have e:cLe es key=cLt es key:=by
   refine Nat.le_antisymm (Nat.le_of_not_lt fun q=>?_) (Nat.le_of_not_lt fun q=>?_)
   ·have a:=(fY hs key (j:=cLt es key) (by omega)).2 q
    rcases kW a with e | e
    ·exact hk ((dJ es key).2 ⟨by omega,e.symm⟩)
    ·have:=(gW hs key (j:=cLt es key) (by omega)).1 e;omega
   ·have a:=(gW hs key (j:=cLe es key) (by omega)).2 q
    have:=(fY hs key (j:=cLe es key) (by omega)).1 (fE a);omega
  rw[e];split
  ·rename_i q;rcases q with q | q
   ·exact absurd q hk
   ·omega
  ·rfl
theorem fV(q:Nat)(d:Nd)(a:Option Nat)(junk:List E3)(w:World)(h:aM w q d a junk):
  Calls Tryz.prog 141 #[.pointer (some ⟨q,0,none⟩)] w fun e w'=>e=.returned (.bool (decide (2<d.2.length)))∧w'=w:=by
 have h1:w.cell? ⟨q,1,none⟩=some (.slice (adr a) d.2.length (d.2.length+junk.length)):=by rw[h.box.cell];rfl
 have hs:d.2.length+junk.length≤9223372036854775807:=by have:=h.small;simp[maxLen]at this;omega
 go_enter Tryz.func141,Tryz.ntmps141
 go_wp2
 go_ret
 exact⟨by simp;omega,rfl⟩
theorem gX(q:Nat)(d:Nd)(a:Option Nat)(junk:List E3)(key:ByteArray)(w:World)(h:aM w q d a junk)(hs:Srt d.2)(ft:d.2.length≤10):
  Calls Tryz.prog 121 #[.pointer (some ⟨q,0,none⟩),.string key] w fun e w'=>e=.returned (.int .i64 (bK d.2 key))∧Bl w w':=by
 obtain⟨k,es⟩:=d;simp only at hs ft ⊢;have h1:w.cell? ⟨q,1,none⟩=some (.slice (adr a) es.length (es.length+junk.length)):=by rw[h.box.cell];rfl
 have HE:Hid (bK es key=if fD es key=true∨cLt es key=0 then cLt es key else cLt es key-1):=aAQ hs key;have hN:NRd w (.slice (adr a) es.length (es.length+junk.length)) es:=h.esl.nrd;have au:=kM es key;go_enter Tryz.func121,Tryz.ntmps121;go_wp2_with fail;refine(iD _ es key _ hN (by omega) hs).mono ?_;rintro e w1 ⟨hb,rfl⟩;by_cases c1:fD es key=true
 ·have HV:Hid (bK es key=cLt es key):=by rw[HE.out,if_pos (.inl c1)];rfl
  rw[c1];generalize cLt es key=n at *;go_wp2;go_ret;exact⟨by rw[HV.out];simp,hb⟩
 ·have c1':fD es key=false:=Bool.eq_false_iff.2 c1
  by_cases c2:cLt es key=0
  ·have HV:Hid (bK es key=0):=by rw[HE.out,if_pos (.inr c2),c2];rfl
   rw[c1',c2];clear c2;go_wp2;go_ret;exact⟨by rw[HV.out];simp,hb⟩
  ·have HV:Hid (bK es key=cLt es key-1):=by rw[HE.out,if_neg (fun q=>q.elim c1 c2)];rfl
   rw[c1'];generalize cLt es key=n at *;obtain⟨m,rfl⟩:∃m,n=m+1:=⟨n-1,by omega⟩;have c3:(((m+1:Nat):Int) == 0)=false:=by rw[beq_eq_false_iff_ne];omega
   go_wp2
   go_ret
   exact⟨by rw[HV.out];simp,hb⟩
def sX(v:Value):Option (DataW Unit×List MemPlace):=match v with
 | .pointer none=>some (.lit (.int .i64 (-1)),[])
 | .pointer (some p)=>if p.off=0∧p.spot=none then some (.lit (.int .i64 p.block),[])else none
 | _=>none
theorem zI{d:DataW Unit}{ps:List MemPlace}(h:sX v=some (d,ps)):(v=.pointer none∧d=.lit (.int .i64 (-1)))∨∃q:Nat,v=.pointer (some ⟨q,0,none⟩)∧d=.lit (.int .i64 q):=by
 unfold sX at h;split at h
 ·cases h;exact .inl ⟨rfl,rfl⟩
 ·rename_i p
  split at h
  ·rename_i hp
   cases h
   obtain⟨bl,off,sp⟩:=p;simp only at hp;obtain⟨rfl,rfl⟩:=hp;exact .inr ⟨bl,rfl,rfl⟩
  ·cases h
 ·cases h
def eQ(x:Option Nat):Value:=.pointer (x.map fun q=>⟨q,0,none⟩)
def uM(x:Option Nat):DataW Unit:=.lit (.int .i64 (match x with
 | some q=>(q:Int)
 | none=>-1))
def aFY(φ:Nat→Option Nat):Nat:=cR 512 fun b=>if(φ b).isSome then 1 else 0
theorem aIV(φ:Nat→Option Nat):aFY φ≤512:=by
 have:∀n,cR n (fun b=>if(φ b).isSome then 1 else 0)≤n:=fun n=>by
  induction n with
  | zero=>exact nR _
  | succ n ih=>simp only[cR];split<;>omega
 exact this 512
theorem xX(φ:Nat→Option Nat){b:Nat}(hb:b<512)(x:Option Nat):aFY (upd φ b x)+(if(φ b).isSome then 1 else 0)=aFY φ+(if x.isSome then 1 else 0):=by
 have:=lS (n:=512) (g:=fun b=>if(φ b).isSome then 1 else 0) (g':=fun y=>if(upd φ b x y).isSome then 1 else 0) hb (fun y hy=>by simp only[aC _ _ hy])
 simpa [aFY,aD] using this
abbrev kB(b:Nat):Lit:=.int .i64 b
theorem oU{a b:Nat}(h:kB a=kB b):a=b:=by
 simp only[kB,Lit.int.injEq,true_and]at h;omega
def dS(w:World)(m:Nat)(φ:Nat→Option Nat):Prop:=
 ∃D,w.ownsMap Tryz.prog 2 sX m (Maps.size D) D∧Maps.size D=aFY φ∧(∀b,b<512→Maps.has D (kB b)=(φ b).isSome)∧∀b,b<512→D.atKey (kB b) (uM none)=uM (φ b)
theorem gB:Maps.Keyed Tryz.prog 2:=Maps.int_keyed (q:=.i64) Tryz.underlying2
theorem yU(b:Nat)(hb:b<512):keyOf Tryz.prog 2 (.int .i64 b)=some (kB b):=by
 have e1:IntKind.i64.min=-9223372036854775808:=by decide
 have e2:IntKind.i64.max=9223372036854775807:=by decide
 refine Maps.keyOf_int_mk Tryz.underlying2 ?_;unfold Lit.wf;simp only[e1,e2,Bool.and_eq_true,decide_eq_true_eq];omega
theorem dS.lookup(h:dS w m φ)(b:Nat)(hb:b<512):(Instr.lookup 68 (.map (some m)) (.int .i64 b) false).run Tryz.prog w=.ok (eQ (φ b)) w:=by
 obtain⟨D,h1,h2,h3,h4⟩:=h;have hz:(zeroValue 112).run Tryz.prog w=.ok (.pointer none) w:=by kernel_rfl
 obtain⟨v,ps,hr,hv⟩:=h1.lookup gB Tryz.underlying68 hz (zd:=uM none) (zp:=[]) rfl (yU b hb);rw[h4 b hb]at hv;rw[hr];rcases zI hv with⟨rfl,e⟩ | ⟨q,rfl,e⟩
 ·cases hφ:φ b with
  | none=>rfl
  | some q=>
   rw[hφ]at e;simp only[uM,DataW.lit.injEq,Lit.int.injEq,true_and]at e;omega
 ·cases hφ:φ b with
  | none=>
   rw[hφ]at e;simp only[uM,DataW.lit.injEq,Lit.int.injEq,true_and]at e;omega
  | some q'=>
   rw[hφ]at e;simp only[uM,DataW.lit.injEq,Lit.int.injEq,true_and]at e;have:q'=q:=by omega
   subst this;rfl
theorem dS.of(h:dS w m φ)(he:w'.heap[m]?=w.heap[m]?):dS w' m φ:=by
 obtain⟨D,⟨es,cl,e1,e2⟩,h2,h3,h4⟩:=h;exact⟨D,⟨es,cl,he.trans e1,e2⟩,h2,h3,h4⟩
theorem dS.lt(h:dS w m φ):m<w.heap.size:=by
 obtain⟨D,h1,_⟩:=h;exact h1.lt
theorem dS.tight{n:Nat}{D:DataW Unit}(h:w.ownsMap Tryz.prog 2 sX m n D):w.ownsMap Tryz.prog 2 sX m (Maps.size D) D:=by
 obtain⟨es,cl,e1,e2,e3,rfl⟩:=h;exact⟨es,cl,e1,e2,by simp[Maps.size,length_sorted],rfl⟩
theorem dS.put(h:dS w m φ)(b q:Nat)(hb:b<512):∃w',(Instr.mapUpdate 68 (.map (some m)) (.int .i64 b) (.pointer (some ⟨q,0,none⟩))).run Tryz.prog w=.ok () w'∧dS w' m (upd φ b (some q))∧Frm (fun k=>k=m) w w':=by
 obtain⟨D,h1,h2,h3,h4⟩:=h;have ht:=h1.tidy gB;have bd:=aIV φ;obtain⟨w',hr,ho,hg⟩:=h1.update gB Tryz.underlying68 (by rw[h2];simp[maxLen];omega) (yU b hb) (val:=.pointer (some ⟨q,0,none⟩)) (d:=uM (some q)) (ps:=[]) (by simp[sX,uM]);have mx:WideAt.IsKeyLit (kB b):=gB.key (yU b hb);refine⟨w',hr,⟨D.put (kB b) (uM (some q)),dS.tight ho,?_,fun x hx=>?_,fun x hx=>?_⟩,⟨hg.os,hg.tape,hg.output,hg.size,fun k hk hn=>hg.block k hk (fun e=>hn (Option.some.inj e))⟩⟩
 ·have e1:=Maps.size_put (k:=kB b) ht (uM (some q))
  have e2:=xX φ hb (some q);rw[h3 b hb]at e1;rw[e1,h2];cases hφ:φ b with
  | none=>rw[hφ]at e2;simp at e2 ⊢;omega
  | some y=>rw[hφ]at e2;simp at e2 ⊢;omega
 ·by_cases e:x=b
  ·subst e;rw[Maps.has_put_same ht.isMap mx,aD];rfl
  ·rw[Maps.has_put_other (fun q=>e (oU q)),aC _ _ e];exact h3 x hx
 ·by_cases e:x=b
  ·subst e;rw[Maps.atKey_put_same ht.isMap mx,aD]
  ·rw[Maps.atKey_put_other (fun q=>e (oU q)),aC _ _ e];exact h4 x hx
theorem dS.del(h:dS w m φ)(b:Nat)(hb:b<512)(ty:TypeId):∃w',(Builtin.delete_ #[68,2] ty #[.map (some m),.int .i64 b]).run Tryz.prog w=.ok (.tuple #[]) w'∧dS w' m (upd φ b none)∧Frm (fun k=>k=m) w w':=by
 obtain⟨D,h1,h2,h3,h4⟩:=h;have ht:=h1.tidy gB;obtain⟨w',hr,ho,hg⟩:=h1.drop gB Tryz.underlying68 (yU b hb) ty;have hg:=hg.grown;refine⟨w',hr,⟨D.del (kB b),dS.tight ho,?_,fun x hx=>?_,fun x hx=>?_⟩,⟨hg.os,hg.tape,hg.output,hg.size,fun k hk hn=>hg.block k hk (fun e=>hn (Option.some.inj e))⟩⟩
 ·have e1:=Maps.size_del (k:=kB b) ht
  have e2:=xX φ hb none;rw[h3 b hb]at e1;cases hφ:φ b with
  | none=>rw[hφ]at e1 e2;simp at e1 e2;omega
  | some y=>rw[hφ]at e1 e2;simp at e1 e2;omega
 ·by_cases e:x=b
  ·subst e;rw[Maps.has_del_same,aD];rfl
  ·rw[Maps.has_del_other (fun q=>e (oU q)),aC _ _ e];exact h3 x hx
 ·by_cases e:x=b
  ·subst e;rw[Maps.atKey_del_same,aD]
  ·rw[Maps.atKey_del_other (fun q=>e (oU q)),aC _ _ e];exact h4 x hx
