import Derived.Maps.OwnSet
import Derived.Maps.Views
import Derived.Test.YtaahkgkdpnnhhaaGreatPl1
set_option maxHeartbeats 9999999
set_option maxRecDepth 99999
set_option linter.all false
namespace Go.Proofs.YtaahkgkdpnnhhaaGreat
open Go.RowKit Fo
variable{key:ByteArray}{es junk rs:List E3}{g i m q:Nat}{φ:Nat→Option Nat}{S:Nat→Prop}{d:Nd}{a:Option Nat}{v:Value}{b w w':World}
def aMJ(v:Value)(a:Option Nat):Prop:=∀gv o n c,v=.slice (some ⟨gv,o,none⟩) n c→a≠some gv
structure xQ(w w':World)(a:Option Nat)(u:Value)(ls:List E3):Prop where
 ex:∃a' junk',u=.slice (adr a') ls.length (ls.length+junk'.length)∧(∀g,a'=some g→IsC w' g (bW (ls++junk')) 110∧(a=some g∨w.heap.size≤g))∧a'≠none∧ls.length+junk'.length≤maxLen
 frm:Frm (fun k=>a=some k) w w'
theorem aAZ(a:Option Nat)(es junk vs:List E3)(v:Value)(w:World)(ha:∀g,a=some g→IsC w g (bW (es++junk)) 110)(hn:a=none→es=[]∧junk=[])(hv:Esl w v vs)(XY:∃b c,v=.slice b vs.length c)(h0:0<vs.length)(Ai:es.length+vs.length≤10)(hm:es.length+junk.length≤maxLen):
  Calls Tryz.prog 120 #[.slice (adr a) es.length (es.length+junk.length),.int .i64 es.length,v] w fun e w'=>∃u,e=.returned u∧xQ w w' a u (es++vs):=by
 obtain⟨u,W',a',junk',hr,rfl,h1,h2,h3,h4⟩:=xS a es junk vs v w ha hn hv (by omega) hm;have jo:=hr 106;obtain⟨b,c,rfl⟩:=XY;have g9:es.length+junk.length≤9223372036854775807:=by simp[maxLen]at hm;omega
 have hz:((vs.length:Int) == 0)=false:=by rw[beq_eq_false_iff_ne];omega
 have fin:∃u,Ending.returned (Value.slice (adr a') (es.length+vs.length) (es.length+vs.length+junk'.length))=.returned u∧xQ w W' a u (es++vs):=
  ⟨_,rfl,⟨a',junk',by rw[lP],h1,fun e=>by obtain⟨_,q,_⟩:=h2 e;rw[q]at h0;simp at h0,by rw[lP];exact h3⟩,h4⟩
 have HF:Hid (∃u,Ending.returned (Value.slice (adr a') (es.length+vs.length) (es.length+vs.length+junk'.length))=.returned u∧xQ w W' a u (es++vs)):=fin;clear h1 h2 h3 h4 fin hv ha hr hn;go_enter Tryz.func120,Tryz.ntmps120;go_wp2_with (at_builtin;refine cG rfl _ _ _ _ rfl (.slice (adr a) es.length (es.length+junk.length)) (.slice b vs.length c) rfl rfl _ _ jo ?_)
 all_goals (go_ret;exact HF.out)
theorem oC(W:World)(ty:TypeId)(g:Nat)(es:List E3)(cap k:Nat)(hs:∀j v,(es.flatMap aJ)[j]?=some v→W.cell? ((⟨g,0,none⟩:Addr).add j)=some v)(hk:0<k)(hc:cap<es.length+k)(Ai:es.length+k≤20):
  ∃gc,es.length+k≤gc∧gc≤maxLen∧(Builtin.append_ #[106,3] ty #[.slice (some ⟨g,0,none⟩) es.length cap,.int .i64 k]).run Tryz.prog W =
   .ok (.slice (some ⟨W.heap.size,0,none⟩) (es.length+k) gc) (W.drew.alloc (.cells (bW (es++List.replicate (gc-es.length) e0)) 110)):=by
 obtain⟨i0,hi,h3,Aj,hz⟩:=pJ;have xz:=grownCap_ge W (es.length+k) cap 110;have pr:=grownCap_le_maxLen W (es.length+k) cap 110 (by simp[maxLen];omega);refine⟨grownCap W (es.length+k) cap 110,xz,pr,?_⟩;have sn:(Builtin.firstCells i0.size es.length (.slice (some ⟨g,0,none⟩) es.length cap)).run Tryz.prog W.drew=.ok (es.flatMap aJ).toArray W.drew:=
  run_firstCells_some (P:=Tryz.prog) W.drew i0.size es.length ⟨g,0,none⟩ es.length _ (es.flatMap aJ) (by rw[aG,h3]) (by simpa using hs)
 have hw:IntKind.i64.wrap (k:Int)=k:=by rw[IntKind.wrap_i64];omega
 have GA:¬((k:Int)<0):=by omega
 have VB:¬(281474976710656 <(k:Int)*(40:Int)):=by omega
 have hn:¬(es.length+k≤cap):=by omega
 have VD:¬(9223372036854775807 <((es.length:Int)+(k:Int))):=by omega
 have Qe:¬(281474976710656<Builtin.nextslicecap (es.length+k) cap*40):=by have:=aLB (need:=es.length+k) (old:=cap) (by omega) (by omega);omega
 have au:(Value.agg #[.string .empty,.string .empty,.int .i64 0]).cells=#[.string .empty,.string .empty,.int .i64 0]:=by kernel_rfl
 have Ay:∀m,Builtin.zeroCells (Value.agg #[.string .empty,.string .empty,.int .i64 0]).cells m=((List.replicate m e0).flatMap aJ).toArray:=fun m=>by rw[au,aDL]
 generalize (Value.agg #[.string .empty,.string .empty,.int .i64 0])=Z at hz Ay;have Jo:¬(k*3=0):=by omega
 have Q3:Tryz.prog.underlying 3=some (.int .i64):=Tryz.underlying3;have og:((es.flatMap aJ).toArray++((List.replicate k e0).flatMap aJ).toArray++((List.replicate (grownCap W (es.length+k) cap 110 -(es.length+k)) e0).flatMap aJ).toArray)=bW (es++List.replicate (grownCap W (es.length+k) cap 110-es.length) e0):=by
  have e:List.replicate (grownCap W (es.length+k) cap 110-es.length) e0=List.replicate k e0++List.replicate (grownCap W (es.length+k) cap 110 -(es.length+k)) e0:=by
   rw[List.replicate_append_replicate];congr 1;omega
  apply Array.toList_inj.1
  simp only[bW,e,Array.toList_append,List.flatMap_append,List.append_assoc]
 rw[h3]at sn;generalize bW (es++List.replicate (grownCap W (es.length+k) cap 110-es.length) e0)=R at og ⊢;simp[Builtin.append_,run_underlying Tryz.underlying106,run_underlying Q3,sizeOf,typeInfo,zeroValue,asInt,asIntOf,hi,h3,Aj,hz,hw,GA,VB,hn,VD,Qe,Question.forced,sn,Ay,newRow,grownCap,Jo];rw[←og];simp[grownCap]
theorem yW(g:Nat)(es junk vs:List E3)(b:Option Addr)(c i:Nat)(w:World)(hx:IsC w g (bW (es++junk)) 110)(hv:Esl w (.slice b vs.length c) vs)(hi:i<es.length)(h0:0<vs.length)(Ai:es.length+vs.length≤10)(jq:junk.length<vs.length):
  Calls Tryz.prog 120 #[.slice (some ⟨g,0,none⟩) es.length (es.length+junk.length),.int .i64 i,.slice b vs.length c] w fun e w'=>∃u,e=.returned u∧xQ w w' (some g) u (es.take i++vs++es.drop i):=by
 rcases hv with⟨hv,np⟩ | ⟨gv,o,cap,xs,hv,C7,My,Mf⟩
 ·rw[np]at h0;simp at h0
 simp only[Value.slice.injEq,true_and]at hv;obtain⟨rfl,rfl⟩:=hv;have fy:(es.take i).length=i:=by rw[List.length_take];omega
 obtain⟨k,hk⟩:∃k,k=es.length+vs.length-i:=⟨_,rfl⟩;have NN:∀j v,((es.take i).flatMap aJ)[j]?=some v→w.cell? ((⟨g,0,none⟩:Addr).add j)=some v:=by
  have:=Esl.cells (w:=w) (g:=g) (o:=0) (xs:=es++junk) (es:=es.take i) hx (by rw[fy,lP];omega) (by rw[fy];simp[List.take_append_of_le_length (show i≤es.length by omega)])
  rw[Nat.zero_mul]at this;exact this
 obtain⟨gc,iv,oa,q8⟩:∃gc,es.length+vs.length≤gc∧gc≤maxLen∧∀ty,(Builtin.append_ #[106,3] ty #[.slice (some ⟨g,0,none⟩) i (es.length+junk.length),.int .i64 k]).run Tryz.prog w =
   .ok (.slice (some ⟨w.heap.size,0,none⟩) (es.length+vs.length) gc) (w.drew.alloc (.cells (bW (es.take i++List.replicate (gc-i) e0)) 110)):=by
  obtain⟨gc,q1,q2,q3⟩:=oC w 3 g (es.take i) (es.length+junk.length) k NN (by omega) (by rw[fy];omega) (by rw[fy];omega);rw[fy]at q1 q3;have WX:i+k=es.length+vs.length:=by omega
  rw[WX]at q1 q3;exact⟨gc,q1,q2,fun ty=>q3⟩
 have HK:Hid (k=es.length+vs.length-i):=hk;have g9:gc≤9223372036854775807:=by simp[maxLen]at oa;omega
 obtain⟨W1,AB⟩:∃W1,W1=w.drew.alloc (.cells (bW (es.take i++List.replicate (gc-i) e0)) 110):=⟨_,rfl⟩;rw[←AB]at q8;have hN:IsC W1 w.heap.size (bW (es.take i++List.replicate (gc-i) e0)) 110:=by rw[AB];exact IsC.new _ _ _
 have ij:Frm (fun k=>some g=some k) w W1:=by rw[AB];exact(Frm.drew _ w).trans (Frm.alloc _ _ _)
 have yt:IsC W1 g (bW (es++junk)) 110:=by rw[AB];exact hx.drew.alloc _
 have R5:IsC W1 gv (bW xs) 110:=by rw[AB];exact C7.drew.alloc _
 have Bf:=hx.lt;have X6:Hid (W1=w.drew.alloc (.cells (bW (es.take i++List.replicate (gc-i) e0)) 110)):=AB;clear AB;have GB:(es.take i++List.replicate (gc-i) e0).length=gc:=by simp[fy];omega
 have EJ:∀ty,(Builtin.copy_ #[106,106] ty #[.slice (some ⟨w.heap.size,i*3,none⟩) k (gc-i),.slice (some ⟨gv,o*3,none⟩) vs.length c]).run Tryz.prog W1=.ok (goInt vs.length) (W1.setCells w.heap.size (i*3) (vs.flatMap aJ)):=fun ty=>by
  have um:Nat.min vs.length k=vs.length:=Nat.min_eq_left (by omega);have:=lU W1 ty w.heap.size (i*3) k (gc-i) ⟨gv,o*3,none⟩ vs.length c (vs.flatMap aJ) (by rw[aG,um]) (Esl.cells R5 My Mf) (fun j hj=>by rw[aG]at hj;rw[hN.cell,Array.getElem?_eq_getElem (by rw[fV,GB];omega)];rfl) (fun j hj=>hN.frozen _) (eD vs);rw[um]at this;exact this
 obtain⟨W2,vg⟩:∃W2,W2=W1.setCells w.heap.size (i*3) (vs.flatMap aJ):=⟨_,rfl⟩;rw[←vg]at EJ;have sa:IsC W2 w.heap.size (bW (spl (es.take i++List.replicate (gc-i) e0) i vs)) 110:=by
  have:=IsC.sets (vs.flatMap aJ) (cs:=(es.take i++List.replicate (gc-i) e0).flatMap aJ) (i*3) hN (by rw[aG,aG,GB];omega)
  rw[gM]at this;rw[vg];exact this
 have du:Frm (fun k=>k=w.heap.size) W1 W2:=by rw[vg];exact Frm.sets (S:=fun k=>k=w.heap.size) _ rfl _ _
 have pt:IsC W2 g (bW (es++junk)) 110:=yt.frm du (by omega);clear vg;have fg:(es.drop i).length=es.length-i:=List.length_drop;have Ed:(spl (es.take i++List.replicate (gc-i) e0) i vs).length=gc:=by rw[aDE _ _ _ (by rw[GB];omega)];exact GB
 obtain⟨p,hp⟩:∃p,p=i+vs.length:=⟨_,rfl⟩;have JN:∀W ty,IsC W g (bW (es++junk)) 110→IsC W w.heap.size (bW (spl (es.take i++List.replicate (gc-i) e0) i vs)) 110→(Builtin.copy_ #[106,106] ty #[.slice (some ⟨w.heap.size,p*3,none⟩) (es.length+vs.length-p) (gc-p),.slice (some ⟨g,i*3,none⟩) (es.length-i) (es.length+junk.length-i)]).run Tryz.prog W=.ok (goInt ((es.length-i:Nat):Int)) (W.setCells w.heap.size (p*3) ((es.drop i).flatMap aJ)):=fun W ty hW Im=>by
  have um:Nat.min (es.length-i) (es.length+vs.length-p)=es.length-i:=Nat.min_eq_left (by omega);have:=lU W ty w.heap.size (p*3) (es.length+vs.length-p) (gc-p) ⟨g,i*3,none⟩ (es.length-i) (es.length+junk.length-i) ((es.drop i).flatMap aJ) (by rw[aG,um,fg])
   (Esl.cells (es:=es.drop i) hW (by rw[fg,lP];omega) (by rw[fg,List.drop_append_of_le_length (by omega),List.take_append_of_le_length (by rw[fg];exact nR _),List.take_of_length_le (by rw[fg];exact nR _)]))
   (fun j hj=>by rw[aG,fg]at hj;rw[Im.cell,Array.getElem?_eq_getElem (by rw[fV,Ed];omega)];rfl) (fun j hj=>Im.frozen _) (eD _)
  rw[um]at this;exact this
 have Ft:=fun ty=>JN W2.drew ty pt.drew sa.drew;clear JN;have Wy:(i:Int)+(vs.length:Int)=(p:Int):=by omega
 have T3:IntKind.i64.wrap (p:Int)=(p:Int):=by rw[IntKind.wrap_i64];omega
 have n3:¬gc=p:=by omega
 have Q2:i≤es.length:=by omega
 have n4:(p:Int)≤(es.length:Int)+(vs.length:Int):=by omega
 have n5:p<gc:=by omega
 have T1:p+(es.length-i)=es.length+vs.length:=by omega
 have HP:Hid (p=i+vs.length):=hp;have Ur:Hid (p+(es.length-i)=es.length+vs.length):=T1;clear hp T1;have hz:((vs.length:Int) == 0)=false:=by rw[beq_eq_false_iff_ne];omega
 have av:((i:Int) ==(es.length:Int))=false:=by rw[beq_eq_false_iff_ne];omega
 have hgt:decide ((es.length:Int)+(junk.length:Int) <(es.length:Int)+(vs.length:Int))=true:=by rw[decide_eq_true_eq];omega
 have lq:(es.length:Int)+(vs.length:Int) -(i:Int)=(k:Int):=by omega
 have ao:(i:Int)≤(es.length:Int)+(junk.length:Int):=by omega
 have ow:es.length+vs.length-i=k:=HK.out.symm;have n1:¬es.length+junk.length=i:=by omega
 have n2:¬gc=i:=by omega
 have Nt:Hid (es.length+vs.length-i=k):=ow;clear hk;go_enter Tryz.func120,Tryz.ntmps120;go_wp2_with (at_builtin;refine cG rfl _ _ _ _ rfl (.slice (some ⟨g,0,none⟩) i (es.length+junk.length)) (.int .i64 k) rfl rfl _ _ (q8 _) ?_);go_region_law (fail);go_wp2;go_ret;have e1:=HP.out;have e6:=Ur.out;have be:=IsC.sets ((es.drop i).flatMap aJ) (cs:=(spl (es.take i++List.replicate (gc-i) e0) i vs).flatMap aJ) (p*3) sa.drew (by rw[aG,aG,Ed,fg];omega);rw[gM]at be;have AS:spl (spl (es.take i++List.replicate (gc-i) e0) i vs) p (es.drop i)=es.take i++vs++es.drop i++List.replicate (gc -(es.length+vs.length)) e0:=by
  have tl:∀(A Y:List E3) (n:Nat),A.length=n→(A++Y).take n=A:=fun A Y n h=>by rw[←h];exact List.take_left
  have dl:∀(A Y:List E3) (n:Nat),A.length=n→(A++Y).drop n=Y:=fun A Y n h=>by rw[←h];exact List.drop_left
  have hA:spl (es.take i++List.replicate (gc-i) e0) i vs=es.take i++vs++List.replicate (gc-p) e0:=by
   unfold spl;rw[tl _ _ _ fy,←List.drop_drop,dl _ _ _ fy,List.drop_replicate];congr 2;omega
  have l2:(es.take i++vs).length=p:=by rw[lP,fy];omega
  rw[hA];unfold spl;rw[tl _ _ _ l2,←List.drop_drop,dl _ _ _ l2,List.drop_replicate,fg];congr 2;omega
 rw[AS]at be;refine⟨_,rfl,⟨some w.heap.size,List.replicate (gc -(es.length+vs.length)) e0,?_,fun g' q=>?_,by simp,?_⟩,?_⟩
 ·have hl:(es.take i++vs++es.drop i).length=es.length+vs.length:=by simp only[lP,fy,fg];omega
  rw[hl];simp[adr];omega
 ·cases q;exact⟨be,.inr (nR _)⟩
 ·have hl:(es.take i++vs++es.drop i).length=es.length+vs.length:=by simp only[lP,fy,fg];omega
  rw[hl];simp;omega
 ·have Cf:Frm (fun k=>some g=some k) w W2.drew:=⟨du.os.trans ij.os,du.tape.trans ij.tape,du.output.trans ij.output,lT ij.size du.size,fun k hk hn=>(du.block k (lL hk ij.size) (by omega)).trans (ij.block k hk hn)⟩
  have bu:Frm (fun k=>k=w.heap.size) W2.drew (W2.drew.setCells w.heap.size (p*3) ((es.drop i).flatMap aJ)):=Frm.sets (S:=fun k=>k=w.heap.size) _ rfl _ _;exact⟨bu.os.trans Cf.os,bu.tape.trans Cf.tape,bu.output.trans Cf.output,lT Cf.size bu.size,fun k hk hn=>(bu.block k (lL hk Cf.size) (by omega)).trans (Cf.block k hk hn)⟩
theorem zN(w:World){gv:Nat}{cs cs':Array Value}{t t':TypeId}(hx:IsC w g cs t)(hv:IsC w gv cs' t')(Gt:gv≠g)(o o' n n' c c':Nat)(hn:0<n)(J8:0<n'):
  (Extern.SlicesOverlaps.overlaps #[106,106] #[4] #[.slice (some ⟨gv,o,none⟩) n c,.slice (some ⟨g,o',none⟩) n' c']).run Tryz.prog w=.ok (.bool false) w:=by
 obtain⟨i0,hi,h3,_,_⟩:=pJ;have f1:∀k,w.frozen? ⟨g,k,none⟩=false:=fun k=>hx.frozen k;have f2:∀k,w.frozen? ⟨gv,k,none⟩=false:=fun k=>hv.frozen k;have s1:w.shape? g=some (t,cs.size):=by unfold IsC at hx;simp[World.shape?,hx]
 have s2:w.shape? gv=some (t',cs'.size):=by unfold IsC at hv;simp[World.shape?,hv]
 have av:(gv == g)=false:=by simp[Gt]
 have z1:¬n=0:=by omega
 have z2:¬n'=0:=by omega
 rw[show Extern.SlicesOverlaps.overlaps #[106,106] #[4] #[.slice (some ⟨gv,o,none⟩) n c,.slice (some ⟨g,o',none⟩) n' c']=(underlying 106 >>= _)from rfl];simp[run_underlying Tryz.underlying106,sizeOf,typeInfo,hi,h3,Gt,f1,f2,s1,s2,noView,viewAt,mayBeOne,stringish,z1,z2,av]
theorem yX(g:Nat)(es junk vs:List E3)(gv o c i:Nat)(xs:List E3)(w:World)(hx:IsC w g (bW (es++junk)) 110)(C7:IsC w gv (bW xs) 110)(My:o+vs.length≤xs.length)(Mf:(xs.drop o).take vs.length=vs)(Gt:gv≠g)(hi:i<es.length)(h0:0<vs.length)(Ai:es.length+vs.length≤10)(jq:vs.length≤junk.length)(hm:es.length+junk.length≤maxLen):
  Calls Tryz.prog 120 #[.slice (some ⟨g,0,none⟩) es.length (es.length+junk.length),.int .i64 i,.slice (some ⟨gv,o*3,none⟩) vs.length c] w fun e w'=>∃u,e=.returned u∧xQ w w' (some g) u (es.take i++vs++es.drop i):=by
 have g9:es.length+junk.length≤9223372036854775807:=by simp[maxLen]at hm;omega
 have fg:(es.drop i).length=es.length-i:=List.length_drop;obtain⟨p,hp⟩:∃p,p=i+vs.length:=⟨_,rfl⟩;have hz:((vs.length:Int) == 0)=false:=by rw[beq_eq_false_iff_ne];omega
 have av:((i:Int) ==(es.length:Int))=false:=by rw[beq_eq_false_iff_ne];omega
 have hgt:decide ((es.length:Int)+(junk.length:Int) <(es.length:Int)+(vs.length:Int))=false:=by rw[decide_eq_false_iff_not];omega
 have ao:(i:Int)≤(es.length:Int)+(junk.length:Int):=by omega
 have ba:(es.length:Int)+(vs.length:Int)≤(es.length:Int)+(junk.length:Int):=by omega
 have n1:¬es.length+junk.length=i:=by omega
 have Wy:(i:Int)+(vs.length:Int)=(p:Int):=by omega
 have T3:IntKind.i64.wrap (p:Int)=(p:Int):=by rw[IntKind.wrap_i64];omega
 have n3:¬es.length+junk.length=p:=by omega
 have n4:(p:Int)≤(es.length:Int)+(vs.length:Int):=by omega
 have Q2:i≤es.length:=by omega
 have HP:Hid (p=i+vs.length):=hp;have U9:=@run_callFunc_extern Tryz.prog 139 _ (Extern.SlicesOverlaps.overlaps #[106,106] #[4]) Tryz.func139 (by kernel_rfl) (by kernel_rfl) (by kernel_rfl) (by kernel_rfl);have YP:=zN w hx C7 Gt (o*3) (p*3) vs.length (es.length+vs.length-p) c (es.length+junk.length-p) h0 (by omega);have re:(es++junk).length=es.length+junk.length:=lP;have EJ:∀ty,(Builtin.copy_ #[106,106] ty #[.slice (some ⟨g,p*3,none⟩) (es.length+vs.length-p) (es.length+junk.length-p),.slice (some ⟨g,i*3,none⟩) (es.length+vs.length-i) (es.length+junk.length-i)]).run Tryz.prog w.drew=.ok (goInt ((es.length-i:Nat):Int)) (w.drew.setCells g (p*3) ((es.drop i).flatMap aJ)):=fun ty=>by
  have um:Nat.min (es.length+vs.length-i) (es.length+vs.length-p)=es.length-i:=(Nat.min_eq_right (by omega)).trans (by omega);have:=lU w.drew ty g (p*3) (es.length+vs.length-p) (es.length+junk.length-p) ⟨g,i*3,none⟩ (es.length+vs.length-i) (es.length+junk.length-i) ((es.drop i).flatMap aJ) (by rw[aG,um,fg])
   (Esl.cells (es:=es.drop i) hx.drew (by rw[fg,re];omega) (by rw[fg,List.drop_append_of_le_length (by omega),List.take_append_of_le_length (by rw[fg];exact nR _),List.take_of_length_le (by rw[fg];exact nR _)]))
   (fun j hj=>by rw[aG,fg]at hj;rw[hx.drew.cell,Array.getElem?_eq_getElem (by rw[fV,re];omega)];rfl) (fun j hj=>hx.drew.frozen _) (eD _)
  rw[um]at this;exact this
 obtain⟨W2,vg⟩:∃W2,W2=w.drew.setCells g (p*3) ((es.drop i).flatMap aJ):=⟨_,rfl⟩;rw[←vg]at EJ;have fz:IsC W2 g (bW (spl (es++junk) p (es.drop i))) 110:=by
  have:=IsC.sets ((es.drop i).flatMap aJ) (cs:=(es++junk).flatMap aJ) (p*3) hx.drew (by rw[aG,aG,re,fg];omega)
  rw[gM]at this;rw[vg];exact this
 have du:Frm (fun k=>some g=some k) w W2:=by rw[vg];exact(Frm.drew _ w).trans (Frm.sets (S:=fun k=>some g=some k) _ rfl _ _)
 have R6:IsC W2 gv (bW xs) 110:=C7.frm du (by simpa using Ne.symm Gt);have Ed:(spl (es++junk) p (es.drop i)).length=es.length+junk.length:=by rw[aDE _ _ _ (by rw[re,fg];omega)];exact re
 clear vg;have JN:∀ty,(Builtin.copy_ #[106,106] ty #[.slice (some ⟨g,i*3,none⟩) (es.length+vs.length-i) (es.length+junk.length-i),.slice (some ⟨gv,o*3,none⟩) vs.length c]).run Tryz.prog W2=.ok (goInt vs.length) (W2.setCells g (i*3) (vs.flatMap aJ)):=fun ty=>by
  have um:Nat.min vs.length (es.length+vs.length-i)=vs.length:=Nat.min_eq_left (by omega);have:=lU W2 ty g (i*3) (es.length+vs.length-i) (es.length+junk.length-i) ⟨gv,o*3,none⟩ vs.length c (vs.flatMap aJ) (by rw[aG,um]) (Esl.cells R6 My Mf)
   (fun j hj=>by rw[aG]at hj;rw[fz.cell,Array.getElem?_eq_getElem (by rw[fV,Ed];omega)];rfl) (fun j hj=>fz.frozen _) (eD _)
  rw[um]at this;exact this
 have et:(i:Int)≤(es.length:Int)+(vs.length:Int):=by omega
 have ke:i≤es.length+vs.length:=by omega
 clear hp;go_enter Tryz.func120,Tryz.ntmps120;go_wp2_with fail;go_region_law (fail);go_wp2;go_ret;have e1:=HP.out;have fy:(es.take i).length=i:=by rw[List.length_take];omega
 have be:=IsC.sets (vs.flatMap aJ) (cs:=(spl (es++junk) p (es.drop i)).flatMap aJ) (i*3) fz (by rw[aG,aG,Ed];omega);rw[gM]at be;have AS:spl (spl (es++junk) p (es.drop i)) i vs=es.take i++vs++es.drop i++junk.drop vs.length:=by
  have tl:∀(A Y:List E3) (n:Nat),A.length=n→(A++Y).take n=A:=fun A Y n h=>by rw[←h];exact List.take_left
  have dl:∀(A Y:List E3) (n:Nat),A.length=n→(A++Y).drop n=Y:=fun A Y n h=>by rw[←h];exact List.drop_left
  have h1:(es++junk).take p=es.take i++(((es++junk).take p).drop i):=by
   have:((es++junk).take p).take i=es.take i:=by rw[List.take_take,show min i p=i by omega,List.take_append_of_le_length (by omega)]
   rw[←this,List.take_append_drop]
  have h2:(((es++junk).take p).drop i).length=vs.length:=by rw[List.length_drop,List.length_take,re];omega
  have h3:(es++junk).drop (p+(es.drop i).length)=junk.drop vs.length:=by
   rw[fg,show p+(es.length-i)=es.length+vs.length by omega,←List.drop_drop];congr 1;exact dl _ _ _ rfl
  generalize ((es++junk).take p).drop i=Y at h1 h2;have hA:spl (es++junk) p (es.drop i)=es.take i++(Y++(es.drop i++junk.drop vs.length)):=by
   unfold spl;rw[h3,h1];simp
  rw[hA];unfold spl;rw[tl _ _ _ fy,←List.drop_drop,dl _ _ _ fy,dl _ _ _ h2];simp
 rw[AS]at be;have hl:(es.take i++vs++es.drop i).length=es.length+vs.length:=by simp only[lP,fy,fg];omega
 refine⟨_,rfl,⟨some g,junk.drop vs.length,?_,fun g' q=>?_,by simp,?_⟩,?_⟩
 ·rw[hl];simp[adr];omega
 ·cases q;exact⟨be,.inl rfl⟩
 ·rw[hl];simp;omega
 ·exact du.trans (Frm.sets (S:=fun k=>some g=some k) _ rfl _ _)
theorem jX(a:Option Nat)(es junk vs:List E3)(b:Option Addr)(c i:Nat)(w:World)(ha:∀g,a=some g→IsC w g (bW (es++junk)) 110)(hn:a=none→es=[]∧junk=[])(hv:Esl w (.slice b vs.length c) vs)(uo:aMJ (.slice b vs.length c) a)(hi:i≤es.length)(h0:0<vs.length)(Ai:es.length+vs.length≤10)(hm:es.length+junk.length≤maxLen):
  Calls Tryz.prog 120 #[.slice (adr a) es.length (es.length+junk.length),.int .i64 i,.slice b vs.length c] w fun e w'=>∃u,e=.returned u∧xQ w w' a u (es.take i++vs++es.drop i):=by
 by_cases he:i=es.length
 ·subst he
  have:=aAZ a es junk vs (.slice b vs.length c) w ha hn hv ⟨b,c,rfl⟩ h0 Ai hm
  rw[List.take_of_length_le (nR _),List.drop_of_length_le (nR _),List.append_nil];exact this
 ·cases a with
  | none=>obtain⟨rfl,_⟩:=hn rfl;exact absurd (by simpa using hi:i=0) (by simpa using he)
  | some g=>
   by_cases hr:junk.length<vs.length
   ·exact yW g es junk vs b c i w (ha g rfl) hv (by omega) h0 Ai hr
   ·rcases hv with⟨_,q⟩ | ⟨gv,o,cap,xs,hv,C7,My,Mf⟩
    ·rw[q]at h0;simp at h0
    ·simp only[Value.slice.injEq,true_and]at hv
     obtain⟨rfl,rfl⟩:=hv;exact yX g es junk vs gv o c i xs w (ha g rfl) C7 My Mf (fun e=>uo gv (o*3) vs.length c rfl (by rw[e])) (by omega) h0 Ai (by omega) hm
structure aFP(w w':World)(u:Value)(d:Nd):Prop where
 ex:∃q a junk,u=.pointer (some ⟨q,0,none⟩)∧w.heap.size≤q∧(∀g,a=some g→w.heap.size≤g)∧aK w' q d a junk
 below:Bl w w'
theorem aK.esl(h:aK w q d a junk):Esl w (.slice (adr a) d.2.length (d.2.length+junk.length)) d.2:=by
 cases a with
 | none=>obtain⟨h1,h2⟩:=h.nil rfl;rw[h1,h2];exact .inl ⟨rfl,rfl⟩
 | some g=>exact .inr ⟨g,0,d.2.length+junk.length,d.2++junk,by simp[adr],(h.arr g rfl).1,by simp,by simp⟩
theorem aK.frm(h:aK w q d a junk)(k:Frm S w w')(hq:¬S q)(ha:∀g,a=some g→¬S g):aK w' q d a junk:=
 ⟨h.box.frm k hq,fun g e=>⟨(h.arr g e).1.frm k (ha g e),(h.arr g e).2⟩,h.nil,h.small⟩
theorem aK.below(h:aK w q d a junk)(k:Bl w w'):aK w' q d a junk:=h.frm (S:=fun _=>False) (Frm.of_below k) (fun q=>q) (fun _ _ q=>q)
theorem aFP.box{w1:World}{a':Option Nat}{junk':List E3}(k:Int)(hg:∀g,a'=some g→w.heap.size≤g∧IsC w1 g (bW (es++junk')) 110)(hn:a'=none→es=[]∧junk'=[])(hm:es.length+junk'.length≤maxLen)(hB:Bl w w1):
  aFP w (w1.alloc (.cells #[.int .i64 k,.slice (adr a') es.length (es.length+junk'.length)] 108)) (.pointer (some ⟨w1.heap.size,0,none⟩)) (k,es):=
 ⟨⟨w1.heap.size,a',junk',rfl,hB.size,fun g e=>(hg g e).1,⟨IsC.new _ _ _,fun g e=>⟨(hg g e).2.alloc _,Nat.ne_of_lt (hg g e).2.lt⟩,hn,hm⟩⟩,hB.alloc hB.size _⟩
theorem gR(W:World)(k:Int)(b:Option Addr)(n c:Nat):(Instr.build 108 #[(0,.int .i64 k),(1,.slice b n c)]).run Tryz.prog W=.ok (.agg #[.int .i64 k,.slice b n c]) W:=by kernel_rfl
theorem aMM(W:World)(k:Int)(b:Option Addr)(n c:Nat):(Instr.box 108 (.agg #[.int .i64 k,.slice b n c])).run Tryz.prog W=.ok (.pointer (some ⟨W.heap.size,0,none⟩)) (W.alloc (.cells #[.int .i64 k,.slice b n c] 108)):=by kernel_rfl
theorem mG(q:Nat)(d:Nd)(a:Option Nat)(junk:List E3)(w:World)(h:aK w q d a junk)(fj:d.2.length≤10):
  Calls Tryz.prog 134 #[.pointer (some ⟨q,0,none⟩)] w fun e w'=>∃u,e=.returned u∧aFP w w' u d:=by
 obtain⟨k,es⟩:=d;have c0:w.cell? ⟨q,0,none⟩=some (.int .i64 k):=by rw[h.box.cell];rfl
 have c1:w.cell? ⟨q,1,none⟩=some (.slice (adr a) es.length (es.length+junk.length)):=by rw[h.box.cell];rfl
 have au:=fun W=>oQ (.slice (adr a) es.length (es.length+junk.length)) es W;have hE:=h.esl;have Gj:=gR;have bj:=aMM;clear au;go_enter Tryz.func134,Tryz.ntmps134;go_wp2_with fail;go_region_law (go_simp;go_at_call 152;refine(oQ _ es _ (by exact hE) fj).mono ?_;rintro e w1 ⟨v',rfl,hN⟩;obtain⟨⟨a',junk',rfl,hg,J8,g9⟩,BU⟩:=hN;have hB:Bl w w1:=(bQ w.heap.size w).drew.trans BU;have d0:w1.cell? ⟨q,0,none⟩=some (.int .i64 k):=(by rw[(h.below hB).box.cell];rfl))
 all_goals go_wp2
 all_goals go_ret
 all_goals exact⟨_,rfl,aFP.box k hg J8 g9 hB⟩
theorem Frm.next{T:Nat→Prop}{a c:World}(h:Frm S a b)(k:Frm T b c)(hT:∀x,x<a.heap.size→T x→S x):Frm S a c:=
 ⟨k.os.trans h.os,k.tape.trans h.tape,k.output.trans h.output,lT h.size k.size,fun i hi hn=>(k.block i (lL hi h.size) (fun q=>hn (hT i hi q))).trans (h.block i hi hn)⟩
theorem Frm.put{a:World}(h:Frm S a b)(p:Addr)(v:Value)(hp:p.block<a.heap.size→S p.block):Frm S a (b.setCell p v):=
 h.next (T:=fun x=>x=p.block) (Frm.set (S:=fun x=>x=p.block) b rfl v) (fun x hx e=>by rw[e]at hx ⊢;exact hp hx)
def aAJ(e:E3):Value:=.agg #[.string e.1,.string e.2.1,.int .i64 e.2.2]
theorem aK.some(h:aK w q d a junk)(hl:0<d.2.length):∃g,a=some g∧IsC w g (bW (d.2++junk)) 110∧g≠q:=by
 cases a with
 | none=>obtain⟨h1,_⟩:=h.nil rfl;rw[h1]at hl;simp at hl
 | some g=>exact⟨g,rfl,h.arr g rfl⟩
theorem bF{xs:List E3}(h:IsC w g (bW xs) 110)(hi:i<xs.length):w.cell? ⟨g,i*3,none⟩=some (.string (xs.getD i e0).1)∧w.cell? ⟨g,i*3+1,none⟩=some (.string (xs.getD i e0).2.1)∧w.cell? ⟨g,i*3+2,none⟩=some (.int .i64 (xs.getD i e0).2.2):=by
 rw[h.cell,h.cell,h.cell];exact aHW xs hi
theorem gO(q g:Nat)(k:Int)(es junk:List E3)(i:Nat)(w:World)(h:aK w q (k,es) (some g) junk)(fj:es.length≤10)(hi:i<es.length):
  Calls Tryz.prog 124 #[.pointer (some ⟨q,0,none⟩),.int .i64 i] w fun e w'=>e=.returned (aAJ (es.getD i e0))∧(∃junk',aK w' q (k,delE es i) (some g) junk')∧Frm (fun x=>x=q∨x=g) w w':=by
 obtain⟨hx,Be⟩:=h.arr g rfl;simp only at hx;have lv:=h.small;simp only at lv;have g9:es.length+junk.length≤9223372036854775807:=by simp[maxLen]at lv;omega
 have c1:w.cell? ⟨q,1,none⟩=some (.slice (some ⟨g,0,none⟩) es.length (es.length+junk.length)):=by rw[h.box.cell];rfl
 have C1:=h.box.lt;have E9:=hx.lt;obtain⟨x0,x1,x2⟩:=bF hx (i:=i) (by rw[lP];omega);have eg:(es++junk).getD i e0=es.getD i e0:=by rw[cM,if_pos hi]
 rw[eg]at x0 x1 x2;generalize es.getD i e0=E at *;obtain⟨ek,ev,ec⟩:=E;simp only at x0 x1 x2;go_enter Tryz.func124,Tryz.ntmps124;go_wp2_with fail;rw[show((i:Int)+1)=((i+1:Nat):Int) by omega];refine(rB g es junk i (i+1) _ ((hx.alloc _).alloc _) (by omega) (by omega) fj lv).mono ?_;rintro e w2 ⟨rfl,hI,hF⟩;have ba:IsC w2 q _ 108:=((h.box.alloc _).alloc _).frm hF (fun e=>Be e.symm);have r0:=(IsC.new w #[.string {data:=#[]},.string {data:=#[]},.int .i64 0] 110).alloc (.cells #[.string ek,.string ev,.int .i64 ec] 110);have r1:=IsC.new (w.alloc (.cells #[.string {data:=#[]},.string {data:=#[]},.int .i64 0] 110)) #[.string ek,.string ev,.int .i64 ec] 110;rw[World.size_alloc]at r1;have r0:=r0.frm hF (by omega);have r1:=r1.frm hF (by omega);have b1:w2.cell? ⟨q,1,none⟩=some (.slice (some ⟨g,0,none⟩) es.length (es.length+junk.length)):=ba.c rfl;have b2:=ba.frozen 1;have y0:w2.cell? ⟨w.heap.size+1,0,none⟩=some (.string ek):=r1.c rfl;have y1:w2.cell? ⟨w.heap.size+1,1,none⟩=some (.string ev):=r1.c rfl;have y2:w2.cell? ⟨w.heap.size+1,2,none⟩=some (.int .i64 ec):=r1.c rfl;have z0:w2.cell? ⟨w.heap.size,0,none⟩=some (.string {data:=#[]}):=r0.c rfl;have z1:w2.cell? ⟨w.heap.size,1,none⟩=some (.string {data:=#[]}):=r0.c rfl;have z2:w2.cell? ⟨w.heap.size,2,none⟩=some (.int .i64 0):=r0.c rfl;have f0:=r0.frozen 0;have f1:=r0.frozen 1;have f2:=r0.frozen 2;have nq1:¬w.heap.size=q:=by omega
 have nq2:¬w.heap.size+1=q:=by omega
 have nq3:¬q=w.heap.size:=by omega
 have nq4:¬q=w.heap.size+1:=by omega
 go_wp2
 refine bodyPost_ret (v:=aAJ (ek,ev,ec)) ?_ rfl ?_
 ·simp[results,Tryz.f124,go_sem,aAJ,z0,z1,z2]
 ·refine⟨rfl,⟨[e0]++junk,?_,fun g' e=>?_,fun e=>(by cases e),?_⟩,?_⟩
  ·have:=(((ba.set 1 (.slice (some ⟨g,0,none⟩) (es.length-1) (es.length+junk.length))).set_ne (p:=⟨w.heap.size,0,none⟩) (.string ek) nq3).set_ne (p:=⟨w.heap.size,1,none⟩) (.string ev) nq3).set_ne (p:=⟨w.heap.size,2,none⟩) (.int .i64 ec) nq3
   have e1:(delE es i).length=es.length-1:=bI es i hi;simp only[adr,Option.map_some,e1];have e2:es.length-1+([e0]++junk).length=es.length+junk.length:=by simp;omega
   rw[e2];exact this
  ·cases e
   refine⟨?_,Be⟩;have e3:es.take i++es.drop (i+1)++(List.replicate (i+1-i) e0++junk)=delE es i++([e0]++junk):=by
    rw[show i+1-i=1 by omega];rfl
   rw[e3]at hI;exact(((hI.set_ne (p:=⟨q,1,none⟩) _ Be).set_ne (p:=⟨w.heap.size,0,none⟩) (.string ek) (by simp;omega)).set_ne (p:=⟨w.heap.size,1,none⟩) (.string ev) (by simp;omega)).set_ne (p:=⟨w.heap.size,2,none⟩) (.int .i64 ec) (by simp;omega)
  ·have e1:(delE es i).length=es.length-1:=bI es i hi
   simp only[e1];simp;omega
  ·have hA:Frm (fun x=>x=q∨x=g) w w2:=((Frm.alloc _ w _).next (Frm.alloc (fun _=>False) _ _) (fun _ _ q=>q.elim)).next hF (fun x _ e=>.inr e)
   exact(((hA.put ⟨q,1,none⟩ _ (fun _=>.inl rfl)).put ⟨w.heap.size,0,none⟩ _ (fun hh=>by simp at hh)).put ⟨w.heap.size,1,none⟩ _ (fun hh=>by simp at hh)).put ⟨w.heap.size,2,none⟩ _ (fun hh=>by simp at hh)
theorem aFF{W w3:World}{q1:Nat}{k:Int}{j1:List E3}{a1:Option Nat}(h:aK w q (k,es) (some g) junk)(Be:g≠q)(hB:Bl w W)(hm:m≤es.length)(h9:w.heap.size≤q1)(rk:∀x,a1=some x→w.heap.size≤x)(EZ:aK W q1 (k,es.drop m) a1 j1)(hF:Frm (fun x=>x=g) W w3)
  (hI:IsC w3 g (bW (es.take m++es.drop es.length++(List.replicate (es.length-m) e0++junk))) 110) (lv:es.length+junk.length≤maxLen):
  ∃q' a' j' junk',Ending.returned (.pointer (some ⟨q1,0,none⟩))=.returned (.pointer (some ⟨q',0,none⟩))∧w.heap.size≤q'∧(∀x,a'=some x→w.heap.size≤x)∧aK (w3.setCell ⟨q,1,none⟩ (.slice (some ⟨g,0,none⟩) (es.length -(es.length-m)) (es.length+junk.length))) q' (k,es.drop m) a' j'∧aK (w3.setCell ⟨q,1,none⟩ (.slice (some ⟨g,0,none⟩) (es.length -(es.length-m)) (es.length+junk.length))) q (k,es.take m) (some g) junk'∧Frm (fun x=>x=q∨x=g) w (w3.setCell ⟨q,1,none⟩ (.slice (some ⟨g,0,none⟩) (es.length -(es.length-m)) (es.length+junk.length))):=by
 have C1:=h.box.lt;have E9:=(h.arr g rfl).1.lt;have hO:=h.below hB;have hs:Frm (fun x=>x=q) w3 (w3.setCell ⟨q,1,none⟩ (.slice (some ⟨g,0,none⟩) (es.length -(es.length-m)) (es.length+junk.length))):=Frm.set (S:=fun x=>x=q) w3 rfl _;have fy:(es.take m).length=m:=by rw[List.length_take];omega
 refine⟨q1,a1,j1,List.replicate (es.length-m) e0++junk,rfl,h9,rk,(EZ.frm hF (by omega) (fun x e=>by have:=rk x e;omega)).frm hs (by omega) (fun x e=>by have:=rk x e;omega),⟨?_,fun x e=>?_,fun e=>(by cases e),?_⟩,?_⟩
 ·have:=(hO.box.frm hF (Ne.symm Be)).set 1 (.slice (some ⟨g,0,none⟩) (es.length -(es.length-m)) (es.length+junk.length))
  simp only[adr,Option.map_some,fy];have e2:m+(List.replicate (es.length-m) e0++junk).length=es.length+junk.length:=by simp;omega
  rw[e2];have e3:es.length -(es.length-m)=m:=by omega
  rw[e3]at this ⊢;exact this
 ·cases e
  refine⟨?_,Be⟩;have e4:es.drop es.length=[]:=List.drop_of_length_le (nR _);rw[e4,List.append_nil]at hI;exact hI.set_ne (p:=⟨q,1,none⟩) _ Be
 ·simp only[fy];simp;omega
 ·exact((Frm.of_below hB).next hF (fun x _ e=>.inr e)).next hs (fun x _ e=>.inl e)
theorem oD(q g:Nat)(k:Int)(es junk:List E3)(w:World)(h:aK w q (k,es) (some g) junk)(fj:es.length≤10)(h3:2<es.length):
  Calls Tryz.prog 136 #[.pointer (some ⟨q,0,none⟩)] w fun e w'=>∃q' a' j' junk',e=.returned (.pointer (some ⟨q',0,none⟩))∧w.heap.size≤q'∧(∀x,a'=some x→w.heap.size≤x)∧aK w' q' (k,es.drop (es.length-2)) a' j'∧aK w' q (k,es.take (es.length-2)) (some g) junk'∧Frm (fun x=>x=q∨x=g) w w':=by
 obtain⟨hx,Be⟩:=h.arr g rfl;simp only at hx;have lv:=h.small;simp only at lv;have g9:es.length+junk.length≤9223372036854775807:=by simp[maxLen]at lv;omega
 have c0:w.cell? ⟨q,0,none⟩=some (.int .i64 k):=by rw[h.box.cell];rfl
 have c1:w.cell? ⟨q,1,none⟩=some (.slice (some ⟨g,0,none⟩) es.length (es.length+junk.length)):=by rw[h.box.cell];rfl
 have C1:=h.box.lt;have E9:=hx.lt;obtain⟨m,hm⟩:∃m,m=es.length-2:=⟨_,rfl⟩;rw[←hm];have iu:(es.drop m).length=es.length-m:=List.length_drop;have hE:∀W,IsC W g (bW (es++junk)) 110→Esl W (.slice (some ⟨g,m*3,none⟩) (es.length-m) (es.length+junk.length-m)) (es.drop m):=fun W hW=>.inr ⟨g,m,es.length+junk.length-m,es++junk,by rw[iu],hW,by rw[iu,lP];omega,by rw[iu,List.drop_append_of_le_length (by omega),List.take_append_of_le_length (by rw[iu];exact nR _),List.take_of_length_le (by rw[iu];exact nR _)]⟩;have Dh:=hE w hx;have Qa:(es.drop m).length≤10:=by omega
 have Wn:(es.length:Int)-2=(m:Int):=by omega
 have Tz:IntKind.i64.wrap (m:Int)=(m:Int):=by rw[IntKind.wrap_i64];omega
 have n1:¬es.length+junk.length=m:=by omega
 have n2:(m:Int)≤(es.length:Int):=by omega
 have n3:m≤es.length:=by omega
 have n4:m<es.length:=by omega
 have HM:Hid (m=es.length-2):=hm;have UV:Hid ((es.drop m).length=es.length-m):=iu;clear hm iu hE;have Gj:=gR;have bj:=aMM;go_enter Tryz.func136,Tryz.ntmps136;go_wp2_with fail;go_region_law (go_simp;go_at_call 152;refine(oQ _ (es.drop m) _ (by exact Dh) Qa).mono ?_;rintro e w1 ⟨v',rfl,hN⟩;obtain⟨⟨a',junk',rfl,hg,J8,M1⟩,BU⟩:=hN;have hB:Bl w w1:=(bQ w.heap.size w).drew.trans BU;have d0:w1.cell? ⟨q,0,none⟩=some (.int .i64 k):=(by rw[(h.below hB).box.cell];rfl))
 all_goals go_wp2_with fail
 all_goals
  have Pq:=aFP.box (w:=w) k hg J8 M1 hB;rw[UV.out]at Pq;generalize hW:(w1.alloc (.cells #[.int .i64 k,.slice (adr a') (es.length-m) (es.length-m+junk'.length)] 108))=W at Pq ⊢;have HS:Hid (w1.heap.size+1=W.heap.size):=by rw[←hW];exact(World.size_alloc _ _).symm
  clear hW;obtain⟨⟨q1,a1,j1,rh,h9,rk,EZ⟩,eX⟩:=Pq;simp only[Value.pointer.injEq,sJ,Addr.mk.injEq,and_true]at rh;subst rh;have hO:=h.below eX;have u1:W.cell? ⟨q,1,none⟩=some (.slice (some ⟨g,0,none⟩) es.length (es.length+junk.length)):=by rw[hO.box.cell];rfl
  have UH:=(hO.arr g rfl).1;simp only at UH;clear hg J8 M1 d0 BU c0 c1
 all_goals go_region_law (go_simp;go_at_call 144;refine(rB g es junk m es.length _ (by exact UH) n4 (nR _) fj lv).mono ?_;rintro e w3 ⟨rfl,hI,hF⟩;have v1:w3.cell? ⟨q,1,none⟩=some (.slice (some ⟨g,0,none⟩) es.length (es.length+junk.length)):=(by rw[(hO.box.frm (w':=w3) ⟨hF.os,hF.tape,hF.output,hF.size,hF.block⟩ (fun e=>Be e.symm)).cell];rfl);have v2:=(hO.box.frm (w':=w3) ⟨hF.os,hF.tape,hF.output,hF.size,hF.block⟩ (fun e=>Be e.symm)).frozen 1)
 all_goals go_wp2
 all_goals go_ret
 all_goals exact aFF h Be eX n3 h9 rk EZ ⟨hF.os,hF.tape,hF.output,hF.size,hF.block⟩ hI lv
def jE(x y:ByteArray):Int:=if kl x y=true then -1 else if kl y x=true then 1 else 0
theorem rT(x:ByteArray)(w:World):Calls Tryz.prog 83 #[.string x] w fun e w'=>e=.returned (.bool false)∧w=w':=by
 have h:(x.toList != x.toList)=false:=by simp
 go_enter Tryz.func83,Tryz.ntmps83
 go_wp2
 go_ret
 exact⟨by simp,rfl⟩
theorem nB(x y:ByteArray)(w:World):Calls Tryz.prog 62 #[.string x,.string y] w fun e w'=>e=.returned (.int .i64 (jE x y))∧w=w':=by
 have HC:Hid (jE x y=if kl x y=true then -1 else if kl y x=true then 1 else 0):=rfl;go_enter Tryz.func62,Tryz.ntmps62;go_wp2_with fail;refine(rT _ _).mono ?_;rintro e w1 ⟨rfl,rfl⟩;go_wp2_with fail;refine(rT _ _).mono ?_;rintro e w1 ⟨rfl,rfl⟩;by_cases h1:Op.bytesLess x.toList y.toList=true
 ·have HE:Hid (jE x y=-1):=by rw[HC.out,if_pos (show kl x y=true from h1)];rfl
  go_wp2
  go_ret
  exact⟨by rw[HE.out];rfl,rfl⟩
 ·have N6:Op.bytesLess x.toList y.toList=false:=by simpa using h1
  have k1:¬kl x y=true:=h1;by_cases h2:x.toList=y.toList
  ·have N7:(x.toList == y.toList)=true:=by simp[h2]
   have HE:Hid (jE x y=0):=by
    have:=gQ h2
    subst this;rw[HC.out,eA];rfl
   clear h1 h2 k1;go_wp2;go_ret;exact⟨by rw[HE.out];rfl,rfl⟩
  ·have N7:(x.toList == y.toList)=false:=by simp[h2]
   have HE:Hid (jE x y=1):=by
    rcases jZ (Bool.eq_false_iff.2 k1)with q | q
    ·exact absurd (by rw[q]) h2
    ·rw[HC.out,if_neg k1,if_pos q];rfl
   clear h1 h2 k1;go_wp2;go_ret;exact⟨by rw[HE.out];rfl,rfl⟩
theorem xI(x y:ByteArray)(z:Int)(w:World):Calls Tryz.prog 194 #[.agg #[.string x,.string y,.int .i64 z]] w fun e w'=>e=.returned (.string x)∧Bl w w':=by
 have hB:=(bQ w.heap.size w).alloc (nR _) (.cells #[.string x,.string y,.int .i64 z] 110);go_enter Tryz.func194,Tryz.ntmps194;go_wp2;go_ret;exact⟨rfl,hB⟩
theorem sF(v:Value)(w:World):(Go.method 344 110 v "loop.example/s01595/impl.sortKey").run Tryz.prog w=.ok (194,v) w:=by kernel_rfl
theorem nX(x y:ByteArray)(z:Int)(k:ByteArray)(w:World):Calls Tryz.prog 138 #[.agg #[.string x,.string y,.int .i64 z],.string k] w fun e w'=>e=.returned (.int .i64 (jE x k))∧Bl w w':=by
 have hB:=(bQ w.heap.size w).alloc (nR _) (.cells #[.string x,.string y,.int .i64 z] 110);have mS:=sF;go_enter Tryz.func138,Tryz.ntmps138;go_wp2_with fail;refine(xI x y z _).mono ?_;rintro e w1 ⟨rfl,ao⟩;have eX:=hB.trans (ao.mono hB.size);clear ao;go_wp2_with fail;refine(nB _ _ _).mono ?_;rintro e w2 ⟨rfl,rfl⟩;go_wp2;go_ret;exact⟨rfl,eX⟩
def NRd(w:World)(v:Value)(es:List E3):Prop:=
 ∃a cap,v=.slice a es.length cap∧(0<es.length→∃b off,a=some ⟨b,off,none⟩∧∀i,i<es.length→w.cell? ⟨b,off+i*3,none⟩=some (.string (es.getD i e0).1)∧w.cell? ⟨b,off+i*3+1,none⟩=some (.string (es.getD i e0).2.1)∧w.cell? ⟨b,off+i*3+2,none⟩=some (.int .i64 (es.getD i e0).2.2))
theorem Esl.nrd(h:Esl w v es):NRd w v es:=by
 rcases h with⟨rfl,rfl⟩ | ⟨g,o,cap,xs,rfl,hx,hl,he⟩
 ·exact⟨none,0,rfl,fun q=>by simp at q⟩
 ·refine⟨_,cap,rfl,fun _=>⟨g,o*3,rfl,fun i hi=>?_⟩⟩
  have hc:=Esl.cells hx hl he;have tw:∀j,(⟨g,o*3,none⟩:Addr).add j=⟨g,o*3+j,none⟩:=fun j=>by unfold Addr.add;split<;>simp_all
  obtain⟨r1,r2,r3⟩:=kT es hi;have q1:=hc _ _ r1;have q2:=hc _ _ r2;have q3:=hc _ _ r3;rw[tw]at q1 q2 q3;exact⟨q1,q2,q3⟩
theorem aDS{x y:ByteArray}:(jE x y == 0)=(x.toList == y.toList):=by
 unfold jE;by_cases h1:kl x y=true
 ·rw[if_pos h1]
  have:x.toList≠y.toList:=fun e=>by have:=gQ e;subst this;rw[eA]at h1;cases h1
  simp[this]
 ·rw[if_neg h1]
  rcases jZ (Bool.eq_false_iff.2 h1)with rfl | h2
  ·rw[eA];simp
  ·rw[if_pos h2]
   have:x.toList≠y.toList:=fun e=>by have:=gQ e;subst this;rw[eA]at h2;cases h2
   simp[this]
def fL(rs:List E3)(key:ByteArray)(e:Ending):Prop:=e=.returned (.tuple #[.int .i64 (cLt rs key),.bool (fC rs key)])
theorem aDF(hm:Srt rs)(h1:i≤rs.length)(h2:∀a,a<i→kl (rs.getD a e0).1 key=true)(h3:∀a,i≤a→a<rs.length→kl (rs.getD a e0).1 key=false):cLt rs key=i:=by
 have hl:=jS rs key;refine Nat.le_antisymm (Nat.le_of_not_lt fun ai=>?_) (Nat.le_of_not_lt fun ai=>?_)
 ·have:=(gA hm key (j:=i) (by omega)).2 ai
  rw[show ky rs i=(rs.getD i e0).1 from rfl,h3 i (nR _) (by omega)]at this;cases this
 ·have:=(gA hm key (j:=cLt rs key) (by omega)).1 (h2 _ ai);omega
theorem fL.yes(hm:Srt rs)(h1:i<rs.length)(h2:∀a,a<i→kl (rs.getD a e0).1 key=true)(h3:∀a,i≤a→a<rs.length→kl (rs.getD a e0).1 key=false){cv:Int}(hc:jE (rs.getD i e0).1 key=cv):fL rs key (.returned (.tuple #[.int .i64 i,.bool (cv == 0)])):=by
 have e:=aDF hm (by omega) h2 h3;unfold fL fC;rw[e,←hc,aDS];simp[h1,ky]
theorem fL.no(hm:Srt rs)(h2:∀a,a<rs.length→kl (rs.getD a e0).1 key=true):fL rs key (.returned (.tuple #[.int .i64 rs.length,.bool false])):=by
 have e:=aDF hm (nR _) h2 (fun a h1 h2=>by omega);unfold fL fC;rw[e];simp
theorem zU(v:Value)(rs:List E3)(key:ByteArray)(w:World)(hv:NRd w v rs)(hn:rs.length≤1048576)(hm:Srt rs):
  Calls Tryz.prog 137 #[v,.string key,.func (.func 138) #[] #[]] w fun e w'=>Bl w w'∧fL rs key e:=by
 obtain⟨a,cap,rfl,hc⟩:=hv;go_enter Tryz.func137,Tryz.ntmps137;go_wp2;go_loopw [9,10] (fun u v wr=>∃i j:Nat,i≤j∧j≤rs.length∧u=.int .i64 i∧v=.int .i64 j∧Bl w wr∧(∀a,a<i→kl (rs.getD a e0).1 key=true)∧∀a,j≤a→a<rs.length→kl (rs.getD a e0).1 key=false) (fun u v _=>(intOf v).toNat -(intOf u).toNat)
 case atStart=>exact⟨0,rs.length,Nat.zero_le _,nR _,rfl,rfl,bQ _ _,fun a ha=>by omega,fun a h1 h2=>by omega⟩
 case round=>
  obtain⟨i,j,g8,hj,rfl,rfl,hb,mw,uf⟩:=hrel;by_cases ai:i<j
  ·obtain⟨b,off,rfl,aa⟩:=hc (by omega)
   have Tr:i≤(i+j) / 2∧(i+j) / 2<j:=by omega
   obtain⟨g1,g2,g3⟩:=aa ((i+j) / 2) (by omega);have lm:b<w.heap.size:=World.block_lt_of_cell? _ _ g1;rw[←hb.cell (p:=⟨b,off+(i+j) / 2*3,none⟩) lm]at g1;rw[←hb.cell (p:=⟨b,off+(i+j) / 2*3+1,none⟩) lm]at g2;rw[←hb.cell (p:=⟨b,off+(i+j) / 2*3+2,none⟩) lm]at g3;have Bi:(i:Int) <(j:Int):=by omega
   obtain⟨p,HP⟩:∃p,Hid (rs.getD ((i+j) / 2) e0=p):=⟨_,rfl⟩;rw[HP.out]at g1 g2 g3;obtain⟨x,y,z⟩:=p;simp only at g1 g2 g3;have vd:Hid (∀a,a<i→kl (rs.getD a e0).1 key=true):=mw;have DF:Hid (∀a,j≤a→a<rs.length→kl (rs.getD a e0).1 key=false):=uf;clear hc aa mw uf;go_wp2_with fail;refine(nX x y z key _).mono ?_;rintro e w1 ⟨rfl,ao⟩;have ba:=hb.trans (ao.mono hb.size);have HC:Hid (jE x key=if kl x key=true then -1 else if kl key x=true then 1 else 0):=rfl;clear g1 g2 g3 ao hb;by_cases hx:kl x key=true
   ·rw[HC.out,if_pos hx]
    have La:Hid (∀a,a <(i+j) / 2+1→kl (rs.getD a e0).1 key=true):=fun a ha=>by
     by_cases e:a=(i+j) / 2
     ·rw[e,HP.out];exact hx
     ·have:=hm a ((i+j) / 2) (by omega) (by omega)
      rw[show ky rs ((i+j) / 2)=(rs.getD ((i+j) / 2) e0).1 from rfl,HP.out]at this;exact jN this hx
    go_wp2
    go_roundw
    case rel=>exact⟨(i+j) / 2+1,j,by omega,hj,by go_num,rfl,ba,La.out,DF.out⟩
    case measure=>simp[intOf];omega
   ·have Gm:¬jE x key<0:=by rw[HC.out,if_neg hx];split<;>omega
    have LX:Hid (∀a,(i+j) / 2≤a→a<rs.length→kl (rs.getD a e0).1 key=false):=fun a h1 h2=>by
     by_cases e:a=(i+j) / 2
     ·rw[e,HP.out];exact Bool.eq_false_iff.2 hx
     ·have:=hm ((i+j) / 2) a (by omega) h2
      rw[show ky rs ((i+j) / 2)=(rs.getD ((i+j) / 2) e0).1 from rfl,HP.out]at this;exact fF (Bool.eq_false_iff.2 hx) (eN this)
    generalize jE x key=cv at *;clear hx;go_wp2;go_roundw
    case rel=>exact⟨i,(i+j) / 2,by omega,by omega,rfl,by go_num,ba,vd.out,LX.out⟩
    case measure=>simp[intOf];omega
  ·have ES:i=j:=by omega
   subst ES;have vd:Hid (∀a,a<i→kl (rs.getD a e0).1 key=true):=mw;have DF:Hid (∀a,i≤a→a<rs.length→kl (rs.getD a e0).1 key=false):=uf;clear mw uf;by_cases jm:i<rs.length
   ·obtain⟨b,off,rfl,aa⟩:=hc (by omega)
    obtain⟨g1,g2,g3⟩:=aa i jm;have lm:b<w.heap.size:=World.block_lt_of_cell? _ _ g1;rw[←hb.cell (p:=⟨b,off+i*3,none⟩) lm]at g1;rw[←hb.cell (p:=⟨b,off+i*3+1,none⟩) lm]at g2;rw[←hb.cell (p:=⟨b,off+i*3+2,none⟩) lm]at g3;have ET:(i:Int) <(rs.length:Int):=by omega
    obtain⟨p,HP⟩:∃p,Hid (rs.getD i e0=p):=⟨_,rfl⟩;rw[HP.out]at g1 g2 g3;obtain⟨x,y,z⟩:=p;simp only at g1 g2 g3;clear hc aa;go_wp2_with fail;refine(nX x y z key _).mono ?_;rintro e w1 ⟨rfl,ao⟩;have ba:=hb.trans (ao.mono hb.size);have HY:∀cv,jE x key=cv→Hid (fL rs key (.returned (.tuple #[.int .i64 i,.bool (cv == 0)]))):=fun cv pq=>fL.yes hm jm vd.out DF.out (by rw[HP.out];exact pq);generalize pq:jE x key=cv at *;have HZ:=HY cv rfl;clear g1 g2 g3 ao hb HY pq;go_wp2;exact bodyPost_ret (v:=.tuple #[.int .i64 i,.bool (cv == 0)]) (by simp[results,Tryz.results137,go_sem]) rfl ⟨ba,HZ.out⟩
   ·clear hc
    have ET:¬(i:Int) <(rs.length:Int):=by omega
    have CU:i=rs.length:=by omega
    have HZ:Hid (fL rs key (.returned (.tuple #[.int .i64 i,.bool false]))):=(by rw[CU];exact fL.no hm (by rw[←CU];exact vd.out));clear CU;go_wp2;exact bodyPost_ret (v:=.tuple #[.int .i64 i,.bool false]) (by simp[results,Tryz.results137,go_sem]) rfl ⟨hb,HZ.out⟩
theorem gX(v:Value)(rs:List E3)(key:ByteArray)(w:World)(hv:NRd w v rs)(hn:rs.length≤1048576)(hm:Srt rs):
  Calls Tryz.prog 119 #[v,.string key] w fun e w'=>Bl w w'∧fL rs key e:=by
 obtain⟨a,cap,ig,hc⟩:=id hv;subst ig;have Kz:∀(fn:Fn) (first cap:Array Value) (w:World),(Instr.makeFunc fn first cap).run Tryz.prog w=.ok (.func fn first cap) w:=fun _ _ _ _=>rfl;clear hc;go_enter Tryz.func119,Tryz.ntmps119;go_wp2_with fail;refine(zU _ rs key _ hv hn hm).mono ?_;rintro e w1 ⟨ao,rfl⟩;go_wp2;exact bodyPost_ret (v:=.tuple #[.int .i64 (cLt rs key),.bool (fC rs key)]) (by simp[results,Tryz.results119,go_sem]) rfl ⟨ao,rfl⟩
theorem xJ(x y:ByteArray)(w:World):Calls Tryz.prog 193 #[.agg #[.string x,.string y]] w fun e w'=>e=.returned (.string x)∧Bl w w':=by
 have hB:=(bQ w.heap.size w).alloc (nR _) (.cells #[.string x,.string y] 85);go_enter Tryz.func193,Tryz.ntmps193;go_wp2;go_ret;exact⟨rfl,hB⟩
theorem sG(v:Value)(w:World):(Go.method 344 85 v "loop.example/s01595/impl.sortKey").run Tryz.prog w=.ok (193,v) w:=by kernel_rfl
theorem nY(x y:ByteArray)(k:ByteArray)(w:World):Calls Tryz.prog 61 #[.agg #[.string x,.string y],.string k] w fun e w'=>e=.returned (.int .i64 (jE x k))∧Bl w w':=by
 have hB:=(bQ w.heap.size w).alloc (nR _) (.cells #[.string x,.string y] 85);have mS:=sG;go_enter Tryz.func61,Tryz.ntmps61;go_wp2_with fail;refine(xJ x y _).mono ?_;rintro e w1 ⟨rfl,ao⟩;have eX:=hB.trans (ao.mono hB.size);clear ao;go_wp2_with fail;refine(nB _ _ _).mono ?_;rintro e w2 ⟨rfl,rfl⟩;go_wp2;go_ret;exact⟨rfl,eX⟩
def aLH(w:World)(v:Value)(es:List E3):Prop:=
 ∃a cap,v=.slice a es.length cap∧(0<es.length→∃b off,a=some ⟨b,off,none⟩∧∀i,i<es.length→w.cell? ⟨b,off+i*2,none⟩=some (.string (es.getD i e0).1)∧w.cell? ⟨b,off+i*2+1,none⟩=some (.string (es.getD i e0).2.1))
theorem zV(v:Value)(rs:List E3)(key:ByteArray)(w:World)(hv:aLH w v rs)(hn:rs.length≤1048576)(hm:Srt rs):
  Calls Tryz.prog 60 #[v,.string key,.func (.func 61) #[] #[]] w fun e w'=>Bl w w'∧fL rs key e:=by
 obtain⟨a,cap,rfl,hc⟩:=hv;go_enter Tryz.func60,Tryz.ntmps60;go_wp2;go_loopw [9,10] (fun u v wr=>∃i j:Nat,i≤j∧j≤rs.length∧u=.int .i64 i∧v=.int .i64 j∧Bl w wr∧(∀a,a<i→kl (rs.getD a e0).1 key=true)∧∀a,j≤a→a<rs.length→kl (rs.getD a e0).1 key=false) (fun u v _=>(intOf v).toNat -(intOf u).toNat)
 case atStart=>exact⟨0,rs.length,Nat.zero_le _,nR _,rfl,rfl,bQ _ _,fun a ha=>by omega,fun a h1 h2=>by omega⟩
 case round=>
  obtain⟨i,j,g8,hj,rfl,rfl,hb,mw,uf⟩:=hrel;by_cases ai:i<j
  ·obtain⟨b,off,rfl,aa⟩:=hc (by omega)
   have Tr:i≤(i+j) / 2∧(i+j) / 2<j:=by omega
   obtain⟨g1,g2⟩:=aa ((i+j) / 2) (by omega);have lm:b<w.heap.size:=World.block_lt_of_cell? _ _ g1;rw[←hb.cell (p:=⟨b,off+(i+j) / 2*2,none⟩) lm]at g1;rw[←hb.cell (p:=⟨b,off+(i+j) / 2*2+1,none⟩) lm]at g2;have Bi:(i:Int) <(j:Int):=by omega
   obtain⟨p,HP⟩:∃p,Hid (rs.getD ((i+j) / 2) e0=p):=⟨_,rfl⟩;rw[HP.out]at g1 g2;obtain⟨x,y,z⟩:=p;simp only at g1 g2;have vd:Hid (∀a,a<i→kl (rs.getD a e0).1 key=true):=mw;have DF:Hid (∀a,j≤a→a<rs.length→kl (rs.getD a e0).1 key=false):=uf;clear hc aa mw uf;go_wp2_with fail;refine(nY x y key _).mono ?_;rintro e w1 ⟨rfl,ao⟩;have ba:=hb.trans (ao.mono hb.size);have HC:Hid (jE x key=if kl x key=true then -1 else if kl key x=true then 1 else 0):=rfl;clear g1 g2 ao hb;by_cases hx:kl x key=true
   ·rw[HC.out,if_pos hx]
    have La:Hid (∀a,a <(i+j) / 2+1→kl (rs.getD a e0).1 key=true):=fun a ha=>by
     by_cases e:a=(i+j) / 2
     ·rw[e,HP.out];exact hx
     ·have:=hm a ((i+j) / 2) (by omega) (by omega)
      rw[show ky rs ((i+j) / 2)=(rs.getD ((i+j) / 2) e0).1 from rfl,HP.out]at this;exact jN this hx
    go_wp2
    go_roundw
    case rel=>exact⟨(i+j) / 2+1,j,by omega,hj,by go_num,rfl,ba,La.out,DF.out⟩
    case measure=>simp[intOf];omega
   ·have Gm:¬jE x key<0:=by rw[HC.out,if_neg hx];split<;>omega
    have LX:Hid (∀a,(i+j) / 2≤a→a<rs.length→kl (rs.getD a e0).1 key=false):=fun a h1 h2=>by
     by_cases e:a=(i+j) / 2
     ·rw[e,HP.out];exact Bool.eq_false_iff.2 hx
     ·have:=hm ((i+j) / 2) a (by omega) h2
      rw[show ky rs ((i+j) / 2)=(rs.getD ((i+j) / 2) e0).1 from rfl,HP.out]at this;exact fF (Bool.eq_false_iff.2 hx) (eN this)
    generalize jE x key=cv at *;clear hx;go_wp2;go_roundw
    case rel=>exact⟨i,(i+j) / 2,by omega,by omega,rfl,by go_num,ba,vd.out,LX.out⟩
    case measure=>simp[intOf];omega
  ·have ES:i=j:=by omega
   subst ES;have vd:Hid (∀a,a<i→kl (rs.getD a e0).1 key=true):=mw;have DF:Hid (∀a,i≤a→a<rs.length→kl (rs.getD a e0).1 key=false):=uf;clear mw uf;by_cases jm:i<rs.length
   ·obtain⟨b,off,rfl,aa⟩:=hc (by omega)
    obtain⟨g1,g2⟩:=aa i jm;have lm:b<w.heap.size:=World.block_lt_of_cell? _ _ g1;rw[←hb.cell (p:=⟨b,off+i*2,none⟩) lm]at g1;rw[←hb.cell (p:=⟨b,off+i*2+1,none⟩) lm]at g2;have ET:(i:Int) <(rs.length:Int):=by omega
    obtain⟨p,HP⟩:∃p,Hid (rs.getD i e0=p):=⟨_,rfl⟩;rw[HP.out]at g1 g2;obtain⟨x,y,z⟩:=p;simp only at g1 g2;clear hc aa;go_wp2_with fail;refine(nY x y key _).mono ?_;rintro e w1 ⟨rfl,ao⟩;have ba:=hb.trans (ao.mono hb.size);have HY:∀cv,jE x key=cv→Hid (fL rs key (.returned (.tuple #[.int .i64 i,.bool (cv == 0)]))):=fun cv pq=>fL.yes hm jm vd.out DF.out (by rw[HP.out];exact pq);generalize pq:jE x key=cv at *;have HZ:=HY cv rfl;clear g1 g2 ao hb HY pq;go_wp2;exact bodyPost_ret (v:=.tuple #[.int .i64 i,.bool (cv == 0)]) (by simp[results,Tryz.results60,go_sem]) rfl ⟨ba,HZ.out⟩
   ·clear hc
    have ET:¬(i:Int) <(rs.length:Int):=by omega
    have CU:i=rs.length:=by omega
    have HZ:Hid (fL rs key (.returned (.tuple #[.int .i64 i,.bool false]))):=(by rw[CU];exact fL.no hm (by rw[←CU];exact vd.out));clear CU;go_wp2;exact bodyPost_ret (v:=.tuple #[.int .i64 i,.bool false]) (by simp[results,Tryz.results60,go_sem]) rfl ⟨hb,HZ.out⟩
theorem xD(v:Value)(rs:List E3)(key:ByteArray)(w:World)(hv:aLH w v rs)(hn:rs.length≤1048576)(hm:Srt rs):
  Calls Tryz.prog 46 #[v,.string key] w fun e w'=>Bl w w'∧fL rs key e:=by
 obtain⟨a,cap,ig,hc⟩:=id hv;subst ig;have Kz:∀(fn:Fn) (first cap:Array Value) (w:World),(Instr.makeFunc fn first cap).run Tryz.prog w=.ok (.func fn first cap) w:=fun _ _ _ _=>rfl;clear hc;go_enter Tryz.func46,Tryz.ntmps46;go_wp2_with fail;refine(zV _ rs key _ hv hn hm).mono ?_;rintro e w1 ⟨ao,rfl⟩;go_wp2;exact bodyPost_ret (v:=.tuple #[.int .i64 (cLt rs key),.bool (fC rs key)]) (by simp[results,Tryz.results46,go_sem]) rfl ⟨ao,rfl⟩
theorem aAX(hs:Srt es)(key:ByteArray):bK es key=if fC es key=true∨cLt es key=0 then cLt es key else cLt es key-1:=by
 have h1:=jS es key;have h2:=vY es key;unfold bK;by_cases hk:fC es key=true
 ·rw[if_pos (.inl hk)]
  obtain⟨k1,k2⟩:=(dG es key).1 hk;have a:cLt es key<cLe es key:=(fY hs key k1).1 (by rw[k2];exact eA _);have b:¬cLt es key+1<cLe es key:=fun q=>by
   have:=(fY hs key (j:=cLt es key+1) (by omega)).2 q
   have h3:=hs (cLt es key) (cLt es key+1) (by omega) (by omega);rw[k2,this]at h3;cases h3
  omega
 ·have e:cLe es key=cLt es key:=by
   refine Nat.le_antisymm (Nat.le_of_not_lt fun q=>?_) (Nat.le_of_not_lt fun q=>?_)
   ·have a:=(fY hs key (j:=cLt es key) (by omega)).2 q
    rcases jZ a with e | e
    ·exact hk ((dG es key).2 ⟨by omega,e.symm⟩)
    ·have:=(gA hs key (j:=cLt es key) (by omega)).1 e;omega
   ·have a:=(gA hs key (j:=cLe es key) (by omega)).2 q
    have:=(fY hs key (j:=cLe es key) (by omega)).1 (eN a);omega
  rw[e];split
  ·rename_i q;rcases q with q | q
   ·exact absurd q hk
   ·omega
  ·rfl
theorem fW(q:Nat)(d:Nd)(a:Option Nat)(junk:List E3)(w:World)(h:aK w q d a junk):
  Calls Tryz.prog 141 #[.pointer (some ⟨q,0,none⟩)] w fun e w'=>e=.returned (.bool (decide (2<d.2.length)))∧w'=w:=by
 have h1:w.cell? ⟨q,1,none⟩=some (.slice (adr a) d.2.length (d.2.length+junk.length)):=by rw[h.box.cell];rfl
 have hs:d.2.length+junk.length≤9223372036854775807:=by have:=h.small;simp[maxLen]at this;omega
 go_enter Tryz.func141,Tryz.ntmps141
 go_wp2
 go_ret
 exact⟨by simp;omega,rfl⟩
theorem gT(q:Nat)(d:Nd)(a:Option Nat)(junk:List E3)(key:ByteArray)(w:World)(h:aK w q d a junk)(hs:Srt d.2)(fj:d.2.length≤10):
  Calls Tryz.prog 121 #[.pointer (some ⟨q,0,none⟩),.string key] w fun e w'=>e=.returned (.int .i64 (bK d.2 key))∧Bl w w':=by
 obtain⟨k,es⟩:=d;simp only at hs fj ⊢;have h1:w.cell? ⟨q,1,none⟩=some (.slice (adr a) es.length (es.length+junk.length)):=by rw[h.box.cell];rfl
 have HE:Hid (bK es key=if fC es key=true∨cLt es key=0 then cLt es key else cLt es key-1):=aAX hs key;have hN:NRd w (.slice (adr a) es.length (es.length+junk.length)) es:=h.esl.nrd;have au:=jS es key;go_enter Tryz.func121,Tryz.ntmps121;go_wp2_with fail;refine(gX _ es key _ hN (by omega) hs).mono ?_;rintro e w1 ⟨hb,rfl⟩;by_cases c1:fC es key=true
 ·have HV:Hid (bK es key=cLt es key):=by rw[HE.out,if_pos (.inl c1)];rfl
  rw[c1];generalize cLt es key=n at *;go_wp2;go_ret;exact⟨by rw[HV.out];simp,hb⟩
 ·have c1':fC es key=false:=Bool.eq_false_iff.2 c1
  by_cases c2:cLt es key=0
  ·have HV:Hid (bK es key=0):=by rw[HE.out,if_pos (.inr c2),c2];rfl
   rw[c1',c2];clear c2;go_wp2;go_ret;exact⟨by rw[HV.out];simp,hb⟩
  ·have HV:Hid (bK es key=cLt es key-1):=by rw[HE.out,if_neg (fun q=>q.elim c1 c2)];rfl
   rw[c1'];generalize cLt es key=n at *;obtain⟨m,rfl⟩:∃m,n=m+1:=⟨n-1,by omega⟩;have c3:(((m+1:Nat):Int) == 0)=false:=by rw[beq_eq_false_iff_ne];omega
   go_wp2
   go_ret
   exact⟨by rw[HV.out];simp,hb⟩
def sT(v:Value):Option (DataW Unit×List MemPlace):=match v with
 | .pointer none=>some (.lit (.int .i64 (-1)),[])
 | .pointer (some p)=>if p.off=0∧p.spot=none then some (.lit (.int .i64 p.block),[])else none
 | _=>none
theorem zO{d:DataW Unit}{ps:List MemPlace}(h:sT v=some (d,ps)):(v=.pointer none∧d=.lit (.int .i64 (-1)))∨∃q:Nat,v=.pointer (some ⟨q,0,none⟩)∧d=.lit (.int .i64 q):=by
 unfold sT at h;split at h
 ·cases h;exact .inl ⟨rfl,rfl⟩
 ·rename_i p
  split at h
  ·rename_i hp
   cases h
   obtain⟨bl,off,sp⟩:=p;simp only at hp;obtain⟨rfl,rfl⟩:=hp;exact .inr ⟨bl,rfl,rfl⟩
  ·cases h
 ·cases h
def eT(x:Option Nat):Value:=.pointer (x.map fun q=>⟨q,0,none⟩)
def uI(x:Option Nat):DataW Unit:=.lit (.int .i64 (match x with
 | some q=>(q:Int)
 | none=>-1))
def aGG(φ:Nat→Option Nat):Nat:=cQ 512 fun b=>if(φ b).isSome then 1 else 0
theorem aJF(φ:Nat→Option Nat):aGG φ≤512:=by
 have:∀n,cQ n (fun b=>if(φ b).isSome then 1 else 0)≤n:=fun n=>by
  induction n with
  | zero=>exact nR _
  | succ n ih=>simp only[cQ];split<;>omega
 exact this 512
theorem xZ(φ:Nat→Option Nat){b:Nat}(hb:b<512)(x:Option Nat):aGG (upd φ b x)+(if(φ b).isSome then 1 else 0)=aGG φ+(if x.isSome then 1 else 0):=by
 have:=lW (n:=512) (g:=fun b=>if(φ b).isSome then 1 else 0) (g':=fun y=>if(upd φ b x y).isSome then 1 else 0) hb (fun y hy=>by simp only[aC _ _ hy])
 simpa [aGG,aD] using this
abbrev kB(b:Nat):Lit:=.int .i64 b
theorem oU{a b:Nat}(h:kB a=kB b):a=b:=by
 simp only[kB,Lit.int.injEq,true_and]at h;omega
def dP(w:World)(m:Nat)(φ:Nat→Option Nat):Prop:=
 ∃D,w.ownsMap Tryz.prog 2 sT m (Maps.size D) D∧Maps.size D=aGG φ∧(∀b,b<512→Maps.has D (kB b)=(φ b).isSome)∧∀b,b<512→D.atKey (kB b) (uI none)=uI (φ b)
theorem gC:Maps.Keyed Tryz.prog 2:=Maps.int_keyed (q:=.i64) Tryz.underlying2
theorem yY(b:Nat)(hb:b<512):keyOf Tryz.prog 2 (.int .i64 b)=some (kB b):=by
 have e1:IntKind.i64.min=-9223372036854775808:=by decide
 have e2:IntKind.i64.max=9223372036854775807:=by decide
 refine Maps.keyOf_int_mk Tryz.underlying2 ?_;unfold Lit.wf;simp only[e1,e2,Bool.and_eq_true,decide_eq_true_eq];omega
theorem dP.lookup(h:dP w m φ)(b:Nat)(hb:b<512):(Instr.lookup 68 (.map (some m)) (.int .i64 b) false).run Tryz.prog w=.ok (eT (φ b)) w:=by
 obtain⟨D,h1,h2,h3,h4⟩:=h;have hz:(zeroValue 112).run Tryz.prog w=.ok (.pointer none) w:=by kernel_rfl
 obtain⟨v,ps,hr,hv⟩:=h1.lookup gC Tryz.underlying68 hz (zd:=uI none) (zp:=[]) rfl (yY b hb);rw[h4 b hb]at hv;rw[hr];rcases zO hv with⟨rfl,e⟩ | ⟨q,rfl,e⟩
 ·cases hφ:φ b with
  | none=>rfl
  | some q=>
   rw[hφ]at e;simp only[uI,DataW.lit.injEq,Lit.int.injEq,true_and]at e;omega
 ·cases hφ:φ b with
  | none=>
   rw[hφ]at e;simp only[uI,DataW.lit.injEq,Lit.int.injEq,true_and]at e;omega
  | some q'=>
   rw[hφ]at e;simp only[uI,DataW.lit.injEq,Lit.int.injEq,true_and]at e;have:q'=q:=by omega
   subst this;rfl
theorem dP.of(h:dP w m φ)(he:w'.heap[m]?=w.heap[m]?):dP w' m φ:=by
 obtain⟨D,⟨es,cl,e1,e2⟩,h2,h3,h4⟩:=h;exact⟨D,⟨es,cl,he.trans e1,e2⟩,h2,h3,h4⟩
theorem dP.lt(h:dP w m φ):m<w.heap.size:=by
 obtain⟨D,h1,_⟩:=h;exact h1.lt
theorem dP.tight{n:Nat}{D:DataW Unit}(h:w.ownsMap Tryz.prog 2 sT m n D):w.ownsMap Tryz.prog 2 sT m (Maps.size D) D:=by
 obtain⟨es,cl,e1,e2,e3,rfl⟩:=h;exact⟨es,cl,e1,e2,by simp[Maps.size,length_sorted],rfl⟩
theorem dP.put(h:dP w m φ)(b q:Nat)(hb:b<512):∃w',(Instr.mapUpdate 68 (.map (some m)) (.int .i64 b) (.pointer (some ⟨q,0,none⟩))).run Tryz.prog w=.ok () w'∧dP w' m (upd φ b (some q))∧Frm (fun k=>k=m) w w':=by
 obtain⟨D,h1,h2,h3,h4⟩:=h;have ht:=h1.tidy gC;have bd:=aJF φ;obtain⟨w',hr,ho,hg⟩:=h1.update gC Tryz.underlying68 (by rw[h2];simp[maxLen];omega) (yY b hb) (val:=.pointer (some ⟨q,0,none⟩)) (d:=uI (some q)) (ps:=[]) (by simp[sT,uI]);have mu:WideAt.IsKeyLit (kB b):=gC.key (yY b hb);refine⟨w',hr,⟨D.put (kB b) (uI (some q)),dP.tight ho,?_,fun x hx=>?_,fun x hx=>?_⟩,⟨hg.os,hg.tape,hg.output,hg.size,fun k hk hn=>hg.block k hk (fun e=>hn (Option.some.inj e))⟩⟩
 ·have e1:=Maps.size_put (k:=kB b) ht (uI (some q))
  have e2:=xZ φ hb (some q);rw[h3 b hb]at e1;rw[e1,h2];cases hφ:φ b with
  | none=>rw[hφ]at e2;simp at e2 ⊢;omega
  | some y=>rw[hφ]at e2;simp at e2 ⊢;omega
 ·by_cases e:x=b
  ·subst e;rw[Maps.has_put_same ht.isMap mu,aD];rfl
  ·rw[Maps.has_put_other (fun q=>e (oU q)),aC _ _ e];exact h3 x hx
 ·by_cases e:x=b
  ·subst e;rw[Maps.atKey_put_same ht.isMap mu,aD]
  ·rw[Maps.atKey_put_other (fun q=>e (oU q)),aC _ _ e];exact h4 x hx
theorem dP.del(h:dP w m φ)(b:Nat)(hb:b<512)(ty:TypeId):∃w',(Builtin.delete_ #[68,2] ty #[.map (some m),.int .i64 b]).run Tryz.prog w=.ok (.tuple #[]) w'∧dP w' m (upd φ b none)∧Frm (fun k=>k=m) w w':=by
 obtain⟨D,h1,h2,h3,h4⟩:=h;have ht:=h1.tidy gC;obtain⟨w',hr,ho,hg⟩:=h1.drop gC Tryz.underlying68 (yY b hb) ty;have hg:=hg.grown;refine⟨w',hr,⟨D.del (kB b),dP.tight ho,?_,fun x hx=>?_,fun x hx=>?_⟩,⟨hg.os,hg.tape,hg.output,hg.size,fun k hk hn=>hg.block k hk (fun e=>hn (Option.some.inj e))⟩⟩
 ·have e1:=Maps.size_del (k:=kB b) ht
  have e2:=xZ φ hb none;rw[h3 b hb]at e1;cases hφ:φ b with
  | none=>rw[hφ]at e1 e2;simp at e1 e2;omega
  | some y=>rw[hφ]at e1 e2;simp at e1 e2;omega
 ·by_cases e:x=b
  ·subst e;rw[Maps.has_del_same,aD];rfl
  ·rw[Maps.has_del_other (fun q=>e (oU q)),aC _ _ e];exact h3 x hx
 ·by_cases e:x=b
  ·subst e;rw[Maps.atKey_del_same,aD]
  ·rw[Maps.atKey_del_other (fun q=>e (oU q)),aC _ _ e];exact h4 x hx
abbrev JE:=Int×Int×Option Nat
abbrev j0:JE:=(0,0,none)
def bY(e:JE):List Value:=[.int .i64 e.1,.int .i64 e.2.1,eT e.2.2]
def iP(l:List JE):Array Value:=(l.flatMap bY).toArray
theorem aLU:(Tryz.prog.info? 187).map (fun i=>(i.zero,i.size,i.bytes))=some (some (.agg #[.int .i64 0,.int .i64 0,.pointer none]),3,24):=by kernel_rfl
theorem aMR:∃i,Tryz.prog.info? 187=some i∧i.size=3∧i.bytes=24∧i.zero=some (.agg #[.int .i64 0,.int .i64 0,.pointer none]):=by
 have h:=aLU;cases e:Tryz.prog.info? 187 with
 | none=>rw[e]at h;cases h
 | some i=>
  rw[e]at h;simp only[Option.map_some,sJ,Prod.mk.injEq]at h;exact⟨i,rfl,h.2.1,h.2.2,h.1⟩
theorem aFD(es junk vs:List JE)(h:vs.length≤junk.length):spl (es++junk) es.length vs=es++vs++junk.drop vs.length:=by
 unfold spl;rw[List.take_left,←List.drop_drop,List.drop_left]
theorem aMY{need old:Nat}(h:need≤1000000)(ho:old<need):Builtin.nextslicecap need old*24≤281474976710656:=growslice_fits (bytes:=24) (need:=need) (old:=old) (by omega) (by omega)
theorem cL(es:List JE):(es.flatMap bY).length=es.length*3:=by
 induction es with
 | nil=>rfl
 | cons e es ih=>simp only[List.flatMap_cons,lP,ih,List.length_cons];simp[bY];omega
theorem aEX(es:List JE):(iP es).size=es.length*3:=by unfold iP;rw[List.size_toArray,cL]
theorem rI(es:List JE)(hi:i<es.length):(es.flatMap bY)[i*3]?=some (.int .i64 (es.getD i j0).1)∧(es.flatMap bY)[i*3+1]?=some (.int .i64 (es.getD i j0).2.1)∧(es.flatMap bY)[i*3+2]?=some (eT (es.getD i j0).2.2):=by
 induction es generalizing i with
 | nil=>simp at hi
 | cons e es ih=>
  cases i with
  | zero=>simp[bY]
  | succ i=>
   have:=ih (i:=i) (by simpa using hi)
   have e1:(e :: es).flatMap bY=bY e++es.flatMap bY:=List.flatMap_cons;have l3:(bY e).length=3:=rfl;rw[e1];rw[List.getElem?_append_right (by rw[l3];omega),List.getElem?_append_right (by rw[l3];omega),List.getElem?_append_right (by rw[l3];omega),l3];rw[show(i+1)*3-3=i*3 by omega,show(i+1)*3+1-3=i*3+1 by omega,show(i+1)*3+2-3=i*3+2 by omega];simpa using this
theorem aHX(es:List JE)(hi:i<es.length):(iP es)[i*3]?=some (.int .i64 (es.getD i j0).1)∧(iP es)[i*3+1]?=some (.int .i64 (es.getD i j0).2.1)∧(iP es)[i*3+2]?=some (eT (es.getD i j0).2.2):=by
 simpa [iP] using rI es hi
theorem aDQ(es:List JE):∀v∈es.flatMap bY,v.oneCell'=true:=fun v hv=>by
 obtain⟨e,_,he⟩:=List.mem_flatMap.1 hv;simp only[bY,List.mem_cons,List.not_mem_nil,or_false]at he;rcases he with rfl | rfl | rfl<;>rfl
theorem vO(xs ys:List JE)(i:Nat):spl (xs.flatMap bY) (i*3) (ys.flatMap bY)=(spl xs i ys).flatMap bY:=by
 have tk:∀(l:List JE) (n:Nat),(l.flatMap bY).take (n*3)=(l.take n).flatMap bY:=by
  intro l;induction l with
  | nil=>intro n;simp
  | cons e l ih=>
   intro n;cases n with
   | zero=>simp
   | succ n=>
    have l3:(bY e).length=3:=rfl;rw[List.flatMap_cons,List.take_succ_cons,List.flatMap_cons,List.take_append,l3,List.take_of_length_le (by rw[l3];omega),show(n+1)*3-3=n*3 by omega,ih]
 have dr:∀(l:List JE) (n:Nat),(l.flatMap bY).drop (n*3)=(l.drop n).flatMap bY:=by
  intro l;induction l with
  | nil=>intro n;simp
  | cons e l ih=>
   intro n;cases n with
   | zero=>simp
   | succ n=>
    have l3:(bY e).length=3:=rfl;rw[List.flatMap_cons,List.drop_succ_cons,List.drop_append,l3,List.drop_of_length_le (by rw[l3];omega),show(n+1)*3-3=n*3 by omega,ih,List.nil_append]
 unfold spl;rw[tk,cL,←Nat.add_mul,dr,List.flatMap_append,List.flatMap_append]
def Jsl(w:World)(v:Value)(es:List JE):Prop:=
 (v=.slice none 0 0∧es=[])∨∃g o cap xs,v=.slice (some ⟨g,o*3,none⟩) es.length cap∧IsC w g (iP xs) 187∧o+es.length≤xs.length∧(xs.drop o).take es.length=es
theorem Jsl.cells{o:Nat}{xs es:List JE}(h:IsC w g (iP xs) 187)(hl:o+es.length≤xs.length)(he:(xs.drop o).take es.length=es):∀j v,(es.flatMap bY)[j]?=some v→w.cell? ((⟨g,o*3,none⟩:Addr).add j)=some v:=fun j v hj=>by
 have tw:(⟨g,o*3,none⟩:Addr).add j=⟨g,o*3+j,none⟩:=by unfold Addr.add;split<;>simp_all
 rw[tw,h.cell];have e1:spl (xs.flatMap bY) (o*3) (es.flatMap bY)=xs.flatMap bY:=by
  rw[vO];congr 1;unfold spl;rw[←he,List.length_take,List.length_drop,List.append_assoc];rw[show min es.length (xs.length-o)=es.length by omega];rw[←List.drop_drop,List.take_append_drop,List.take_append_drop]
 have yg:j <(es.flatMap bY).length:=(List.getElem?_eq_some_iff.1 hj).1;have:(iP xs)[o*3+j]?=(xs.flatMap bY)[o*3+j]?:=by simp[iP]
 rw[this,←e1];unfold spl;have pr:((xs.flatMap bY).take (o*3)).length=o*3:=by
  rw[List.length_take,cL];omega
 rw[List.append_assoc,List.getElem?_append_right (by omega),pr,show o*3+j-o*3=j by omega,List.getElem?_append_left yg];exact hj
theorem aMU(m:Nat):Builtin.zeroCells #[.int .i64 0,.int .i64 0,.pointer none] m=((List.replicate m j0).flatMap bY).toArray:=by
 apply Array.toList_inj.1
 simp only[Builtin.zeroCells,List.size_toArray,List.length_cons,List.length_nil,Array.toList_map,Array.toList_range];induction m with
 | zero=>rfl
 | succ m ih=>
  have hr:List.range ((m+1)*3)=List.range (m*3)++[m*3,m*3+1,m*3+2]:=by
   rw[show(m+1)*3=m*3+1+1+1 by omega,List.range_succ,List.range_succ,List.range_succ];simp
  have hp:List.replicate (m+1) j0=List.replicate m j0++[j0]:=List.replicate_succ';rw[hp,List.flatMap_append,←ih];simp only[Nat.zero_add,Nat.reduceAdd];rw[hr,List.map_append];congr 1;simp only[List.map_cons,List.map_nil,show m*3 % 3=0 by omega,show(m*3+1) % 3=1 by omega,show(m*3+2) % 3=2 by omega];rfl
theorem aFW(a:Option Nat)(es junk vs:List JE)(v:Value)(W:World)(ha:∀g,a=some g→IsC W g (iP (es++junk)) 187)(hn:a=none→es=[]∧junk=[])(hv:Jsl W v vs)(Ai:es.length+vs.length≤1000000)(hm:es.length+junk.length≤maxLen):
  ∃u W' a' junk',(∀ty,(Builtin.append_ #[69,69] ty #[.slice (adr a) es.length (es.length+junk.length),v]).run Tryz.prog W=.ok u W')∧u=.slice (adr a') (es.length+vs.length) (es.length+vs.length+junk'.length)∧
   (∀g,a'=some g→IsC W' g (iP (es++vs++junk')) 187∧(a=some g∨W.heap.size≤g))∧(a'=none→es=[]∧vs=[]∧junk'=[])∧es.length+vs.length+junk'.length≤maxLen∧Frm (fun k=>a=some k) W W':=by
 obtain⟨i0,hi,h3,Aj,hz⟩:=aMR;have d8:Src Tryz.prog i0.size 69 v vs.length (vs.flatMap bY) W:=by
  rcases hv with⟨rfl,rfl⟩ | ⟨gv,o,cap,xs,rfl,hx,hl,he⟩
  ·exact Src.ofNil W Tryz.underlying69 0
  ·exact Src.ofSlice W Tryz.underlying69 ⟨gv,o*3,none⟩ vs.length cap _ (by rw[cL,h3]) (Jsl.cells hx hl he) (aDQ vs)
 by_cases jq:vs.length≤junk.length
 ·cases a with
  | none=>
   obtain⟨rfl,rfl⟩:=hn rfl;have GN:vs=[]:=List.length_eq_zero_iff.1 (by simpa using jq);subst GN;refine⟨_,W,none,[],fun ty=>?_,rfl,fun g q=>(by cases q),fun _=>⟨rfl,rfl,rfl⟩,by simp,Frm.refl _ _⟩;have:=run_append_nothing (P:=Tryz.prog) W 69 69 ty 187 i0 Tryz.underlying69 hi none 0 0 (nR _) v d8;exact this
  | some g=>
   have hg:=ha g rfl;refine⟨_,_,some g,junk.drop vs.length,fun ty=>run_append_room_src (P:=Tryz.prog) W 69 69 ty 187 i0 Tryz.underlying69 hi g 0 es.length (es.length+junk.length) v _ _ d8 (by omega)
    (fun k hk=>by rw[cL]at hk;rw[hg.cell,h3,Array.getElem?_eq_getElem (by rw[aEX,lP];omega)];rfl) (fun k hk=>hg.frozen _),?_,fun g' q=>?_,fun q=>(by cases q),?_,?_⟩
   ·simp[adr];omega
   ·cases q
    refine⟨?_,.inl rfl⟩;have:=IsC.sets (vs.flatMap bY) (cs:=(es++junk).flatMap bY) (es.length*3) hg (by rw[cL,cL,lP];omega);rw[vO,aFD _ _ _ jq]at this;rw[h3,Nat.zero_add];exact this
   ·simp;omega
   ·exact Frm.sets (S:=fun k=>some g=some k) _ rfl _ _
 ·have sn:(Builtin.firstCells i0.size es.length (.slice (adr a) es.length (es.length+junk.length))).run Tryz.prog W.drew=.ok (es.flatMap bY).toArray W.drew:=by
   cases a with
   | none=>
    obtain⟨rfl,rfl⟩:=hn rfl;exact run_firstCells_none (P:=Tryz.prog) W.drew i0.size 0 0 0
   | some g=>
    have hg:=ha g rfl;exact run_firstCells_some (P:=Tryz.prog) W.drew i0.size es.length ⟨g,0,none⟩ es.length _ (es.flatMap bY) (by rw[cL,h3]) (by
     have:=Jsl.cells (w:=W.drew) (g:=g) (o:=0) (xs:=es++junk) (es:=es) hg.drew (by rw[lP];omega) (by simp)
     rw[Nat.zero_mul]at this;exact this)
  have hr:=fun ty=>run_append_grow_src (P:=Tryz.prog) W 69 69 ty 187 i0 _ Tryz.underlying69 hi hz (adr a) es.length (es.length+junk.length) (es.flatMap bY) sn v vs.length (vs.flatMap bY) d8 (by omega) (by omega) (by rw[Aj];exact aMY (by omega) (by omega));have xz:=grownCap_ge W (es.length+vs.length) (es.length+junk.length) 187;have pr:=grownCap_le_maxLen W (es.length+vs.length) (es.length+junk.length) 187 (by simp[maxLen];omega);generalize grownCap W (es.length+vs.length) (es.length+junk.length) 187=gc at *;refine⟨_,_,some W.heap.size,List.replicate (gc -(es.length+vs.length)) j0,hr,?_,fun g q=>?_,fun q=>(by cases q),?_,?_⟩
  ·simp[adr];omega
  ·cases q
   refine⟨?_,.inr (nR _)⟩;have au:(Value.agg #[.int .i64 0,.int .i64 0,.pointer none]).cells=#[.int .i64 0,.int .i64 0,.pointer none]:=by kernel_rfl
   have:=IsC.new W.drew ((es.flatMap bY++vs.flatMap bY).toArray++Builtin.zeroCells (Value.agg #[.int .i64 0,.int .i64 0,.pointer none]).cells (gc -(es.length+vs.length))) 187
   have e:iP (es++vs++List.replicate (gc -(es.length+vs.length)) j0)=(es.flatMap bY++vs.flatMap bY).toArray++Builtin.zeroCells (Value.agg #[.int .i64 0,.int .i64 0,.pointer none]).cells (gc -(es.length+vs.length)):=by
    rw[au,aMU];simp[iP]
   rw[e];exact this
  ·simp;omega
  ·exact(Frm.drew _ W).trans (Frm.alloc _ _ _)
def SvS(P m c n b:Nat)(cu0:Int)(x:Option Nat)(jv:Value)(w:World):Prop:=
 w.cell? ⟨P,3,none⟩=some (.map (some m))∧w.cell? ⟨P,4,none⟩=some (.slice (some ⟨c,0,none⟩) n n)∧w.cell? ⟨P,7,none⟩=some jv∧w.cell? ⟨c,b,none⟩=some (.int .i64 cu0)∧
  (Instr.lookup 68 (.map (some m)) (.int .i64 b) false).run Tryz.prog w=.ok (eT x) w
theorem aAR(w:World):Calls Tryz.prog 134 #[.pointer none] w fun e w'=>e=.returned (.pointer none)∧w'=w:=by
 go_enter Tryz.func134,Tryz.ntmps134
 go_wp2
 go_ret
 exact⟨rfl,rfl⟩
structure aLG(w w':World)(x x':Option Nat)(d:Nd):Prop where
 below:Bl w w'
 none:x=none→x'=none
 some:∀q,x=some q→∃q' a' j',x'=some q'∧w.heap.size≤q'∧(∀g,a'=some g→w.heap.size≤g)∧aK w' q' d a' j'
theorem yF(x:Option Nat)(d:Nd)(w:World)(hx:∀q,x=some q→∃a junk,aK w q d a junk)(fj:d.2.length≤10):
  Calls Tryz.prog 134 #[eT x] w fun e w'=>∃x',e=.returned (eT x')∧aLG w w' x x' d:=by
 cases x with
 | none=>
  refine(aAR w).mono ?_;rintro e w' ⟨rfl,rfl⟩;exact⟨none,rfl,bQ _ _,fun _=>rfl,fun q e=>by cases e⟩
 | some q=>
  obtain⟨a,junk,h⟩:=hx q rfl;refine(mG q d a junk w h fj).mono ?_;rintro e w' ⟨u,rfl,⟨q',a',j',rfl,h1,h2,h3⟩,hB⟩;exact⟨some q',rfl,hB,fun e=>(by cases e),fun q2 e=>⟨q',a',j',rfl,h1,h2,h3⟩⟩
theorem aJB(W:World)(x y:Int)(p:Option Addr):(Instr.build 187 #[(0,.int .i64 x),(1,.int .i64 y),(2,.pointer p)]).run Tryz.prog W=.ok (.agg #[.int .i64 x,.int .i64 y,.pointer p]) W:=by kernel_rfl
theorem aKN(W:World)(x y:Int)(p:Option Addr):(Instr.buildSlice 69 1 #[(0,.agg #[.int .i64 x,.int .i64 y,.pointer p])]).run Tryz.prog W=.ok (.slice (some ⟨W.heap.size,0,none⟩) 1 1) (W.alloc (.cells #[.int .i64 x,.int .i64 y,.pointer p] 187)):=by kernel_rfl
theorem mV{P:Program}{o:Oper}{a:Act}{K:Act→World→Prop}{Q:Exit→Act→World→Prop}(s x:Operand)(t tn:TypeId)
  (ho:o.op=.call {callee:=.builtin .append,args:=#[s,x],argTypes:=#[t,tn]}) (vs vx:Value) (hs:a.eval s=vs) (hx:a.eval x=vx)
  (v':Value) (w':World) (hr:(Builtin.append_ #[t,tn] o.type #[vs,vx]).run P w=.ok v' w') (h:K (a.put o.dst v') w'):Oper.wp P o a w K Q:=by
 unfold Oper.wp execOp;simp only[ho,resolve,invoke,builtin,Sem.run_bind,Sem.run_pure,Result.andThen_ok,List.map_toArray,List.map_cons,List.map_nil,hs,hx,hr];exact h
theorem aIC(P m c n b:Nat)(rs cm tv:Value)(nx gn:Int)(cur:List Int)(φ:Nat→Option Nat)(ja:Option Nat)(js jj:List JE)(w:World)
  (hP:IsC w P #[rs,.int .i64 nx,.int .i64 gn,.map (some m),.slice (some ⟨c,0,none⟩) n n,cm,tv,.slice (adr ja) js.length (js.length+jj.length)] 71) (hc:IsC w c (dD cur) 2) (hn:cur.length=n) (hb:b<n) (Bj:n≤512) (hm:dP w m φ)
  (d:Nd) (hx:∀q,φ b=some q→∃a junk,aK w q d a junk) (fj:d.2.length≤10) (hj:∀g,ja=some g→IsC w g (iP (js++jj)) 187∧g≠P∧g≠m∧g≠c) (Q9:ja=none→js=[]∧jj=[]) (Wa:js.length+jj.length≤maxLen) (yg:js.length≤900000):
  Calls Tryz.prog 132 #[.pointer (some ⟨P,0,none⟩),.int .i64 b] w fun e w'=>e=.returned (.tuple #[])∧∃x' ja' jj',IsC w' P #[rs,.int .i64 nx,.int .i64 gn,.map (some m),.slice (some ⟨c,0,none⟩) n n,cm,tv,.slice (adr ja') (js.length+1) (js.length+1+jj'.length)] 71∧
   (∀g,ja'=some g→IsC w' g (iP (js++[((b:Int),cur.getD b 0,x')]++jj')) 187∧(ja=some g∨w.heap.size≤g))∧ja'≠none∧js.length+1+jj'.length≤maxLen∧(∃w1,aLG w w1 (φ b) x' d∧Frm (fun k=>k=P∨ja=some k) w1 w')∧Frm (fun k=>k=P∨ja=some k) w w':=by
 have sc:(dD cur)[b]?=some (.int .i64 (cur.getD b 0)):=by
  simp[dD,gD,show b<cur.length by omega]
 have gx:=hm.lookup b (by omega);have Jw:∀W:World,W.heap[m]?=w.heap[m]?→(Instr.lookup 68 (.map (some m)) (.int .i64 b) false).run Tryz.prog W=.ok (eT (φ b)) W:=fun W hW=>(hm.of hW).lookup b (by omega);generalize cur.getD b 0=cu0 at *;generalize φ b=x at *;have DL:=hP.lt;have au:=hc.lt;have CV:=hm.lt;have hS:∀W:World,(∀k,k<w.heap.size→W.heap[k]?=w.heap[k]?)→SvS P m c n b cu0 x (.slice (adr ja) js.length (js.length+jj.length)) W:=fun W hW=>by
  have h1:IsC W P _ _:=hP.of (hW P DL);have h2:IsC W c _ _:=hc.of (hW c au);exact⟨h1.c rfl,h1.c rfl,h1.c rfl,by rw[h2.cell];exact sc,Jw W (hW m CV)⟩
 have HS:Hid (∀W:World,(∀k,k<w.heap.size→W.heap[k]?=w.heap[k]?)→SvS P m c n b cu0 x (.slice (adr ja) js.length (js.length+jj.length)) W):=hS;have am:SvS P m c n b cu0 x (.slice (adr ja) js.length (js.length+jj.length)) w.drew:=hS w.drew (fun _ _=>rfl);have DN:(b:Int) <(n:Int):=by omega
 have sm:b<n:=hb;have HC:Hid (cur.length=n):=hn;have HB:Hid ((dD cur)[b]?=some (.int .i64 cu0)):=sc;have HM:Hid (∀W:World,W.heap[m]?=w.heap[m]?→(Instr.lookup 68 (.map (some m)) (.int .i64 b) false).run Tryz.prog W=.ok (eT x) W):=Jw;have Gj:=aJB;have ll:=aKN;clear hS gx Jw sc hn;go_enter Tryz.func132,Tryz.ntmps132;refine bA (SvS P m c n b cu0 x (.slice (adr ja) js.length (js.length+jj.length))) 25 (by kernel_rfl) ?_;refine tJ 0 4 (.pointer (some ⟨P,0,none⟩)) rfl am ?_;simp only[Act.put,sB,sZ,sS];refine tJ 1 5 (.pointer (some ⟨P,0,none⟩)) rfl am ?_;simp only[Act.put,sB,sZ,sS];refine tJ 2 6 (.pointer (some ⟨P,0,none⟩)) rfl am ?_;simp only[Act.put,sB,sZ,sS];refine tJ 3 7 (.pointer (some ⟨P,7,none⟩)) rfl am ?_;simp only[Act.put,sB,sZ,sS];refine tJ 4 8 (.slice (adr ja) js.length (js.length+jj.length)) rfl am ?_;simp only[Act.put,sB,sZ,sS];refine tJ 5 9 (.int .i64 b) rfl am ?_;simp only[Act.put,sB,sZ,sS];refine tJ 6 10 (.pointer (some ⟨P,0,none⟩)) rfl am ?_;simp only[Act.put,sB,sZ,sS];refine tJ 7 11 (.pointer (some ⟨P,0,none⟩)) rfl am ?_;simp only[Act.put,sB,sZ,sS];refine tJ 8 12 (.pointer (some ⟨P,4,none⟩)) rfl am ?_;simp only[Act.put,sB,sZ,sS];refine tJ 9 13 (.slice (some ⟨c,0,none⟩) n n) rfl am ?_;simp only[Act.put,sB,sZ,sS];refine tJ 10 14 (.int .i64 b) rfl am ?_;simp only[Act.put,sB,sZ,sS];refine tJ 11 15 (.pointer (some ⟨c,b,none⟩)) rfl am ?_;simp only[Act.put,sB,sZ,sS];refine tJ 12 16 (.int .i64 cu0) rfl am ?_;simp only[Act.put,sB,sZ,sS];refine tJ 13 17 (.pointer (some ⟨P,0,none⟩)) rfl am ?_;simp only[Act.put,sB,sZ,sS];refine tJ 14 18 (.pointer (some ⟨P,0,none⟩)) rfl am ?_;simp only[Act.put,sB,sZ,sS];refine tJ 15 19 (.pointer (some ⟨P,3,none⟩)) rfl am ?_;simp only[Act.put,sB,sZ,sS];refine tJ 16 20 (.map (some m)) rfl am ?_;simp only[Act.put,sB,sZ,sS];refine tJ 17 21 (.int .i64 b) rfl am ?_;simp only[Act.put,sB,sZ,sS];refine tJ 18 22 (eT x) rfl am ?_;simp only[Act.put,sB,sZ,sS];refine oE 19 rfl fun K2 ae=>?_;go_simp;refine(yF x d _ (fun q e=>by obtain⟨a,j,h⟩:=hx q e;exact⟨a,j,h.below (bQ _ _).drew⟩) fj).mono ?_;rintro e w1 ⟨x',rfl,OD⟩;have eX:Bl w w1:=(bQ w.heap.size w).drew.trans OD.below;refine ae _ _ (fun _=>HS.out w1 fun k hk=>eX.block k hk) ?_;clear ae K2 am;have rh:=HS.out w1 fun k hk=>eX.block k hk;have Pa:aLG w w1 x x' d:=⟨eX,OD.none,OD.some⟩;clear OD;obtain⟨p',FC⟩:∃p',eT x'=.pointer p':=⟨_,rfl⟩;rw[FC];refine oE 20 rfl fun K2 ae=>?_;go_simp;refine ae _ _ (fun _=>rh) ?_;clear ae K2;refine oE 21 rfl fun K2 ae=>?_;go_simp;obtain⟨Y,HY⟩:=exH (w1.heap.size);obtain⟨W2,Da⟩:=exH (w1.alloc (.cells #[.int .i64 b,.int .i64 cu0,.pointer p'] 187));rw[←Da.out,←HY.out];have sa:IsC W2 Y (iP [((b:Int),cu0,x')]) 187:=by rw[Da.out,HY.out,←FC];exact IsC.new _ _ _
 have db:Bl w1 W2:=by rw[Da.out];exact(bQ w1.heap.size w1).alloc (nR _) _
 have BG:=eX.trans (db.mono eX.size);have hY:w.heap.size≤Y:=by rw[HY.out];exact eX.size
 clear Da;have h9:=HS.out W2 fun k hk=>BG.block k hk;refine ae _ _ (fun _=>h9) ?_;clear ae K2 rh;obtain⟨u,W3,ja',jj',hr,hu,h1,h2,h3,h4⟩:=aFW ja js jj [((b:Int),cu0,x')] (.slice (some ⟨Y,0,none⟩) 1 1) W2 (fun g e=>(hj g e).1.of (BG.block g (hj g e).1.lt)) Q9 (.inr ⟨Y,0,1,[((b:Int),cu0,x')],by simp,sa,by simp,by simp⟩) (by simp;omega) Wa;simp only[List.length_cons,List.length_nil,Nat.zero_add]at hu h1 h3;refine oE 22 rfl fun K2 ae=>?_;refine mV (.tmp 8) (.tmp 25) _ _ (by rfl) (.slice (adr ja) js.length (js.length+jj.length)) (.slice (some ⟨Y,0,none⟩) 1 1) (by rfl) (by rfl) u W3 (hr _) ?_;have bx:∀k,k<w.heap.size→ja≠some k→W3.heap[k]?=w.heap[k]?:=fun k hk hn=>by
  rw[h4.block k (lL hk BG.size) hn,BG.block k hk]
 have Tu:ja≠some P:=fun e=>(hj P e).2.1 rfl;have Q8:ja≠some m:=fun e=>(hj m e).2.2.1 rfl;have WZ:ja≠some c:=fun e=>(hj c e).2.2.2 rfl;have Fi:IsC W3 P _ _:=hP.of (bx P DL Tu);have Ko:IsC W3 c _ _:=hc.of (bx c au WZ);have Wj:=HM.out W3 (bx m CV Q8);have rk:SvS P m c n b cu0 x (.slice (adr ja) js.length (js.length+jj.length)) W3:=⟨Fi.c rfl,Fi.c rfl,Fi.c rfl,by rw[Ko.cell];exact HB.out,Wj⟩;refine ae _ _ (fun _=>rk) ?_;clear ae K2 h9;subst hu;simp only[Act.put,sB,sZ,sS];have Ks:=Fi.frozen 7;have YB:W3.cell? ⟨P,7,none⟩=some (.slice (adr ja) js.length (js.length+jj.length)):=Fi.c rfl;refine oE 23 rfl fun K2 ae=>?_;go_simp;refine ae _ _ (fun _=>rk) ?_;clear ae K2;refine oE 24 rfl fun K2 ae=>?_;go_simp;refine ae _ _ (fun _=>rk) ?_;clear ae K2;refine oE 25 rfl fun K2 ae=>?_;go_simp;refine ae _ _ (fun q=>absurd rfl q) ?_;clear ae K2;refine aW (by kernel_rfl) ?_ _;go_wp2;go_end0;have av:ja'≠none:=fun e=>by have:=(h2 e).2.1;simp at this
 have be:=Fi.set 7 (.slice (adr ja') (js.length+1) (js.length+1+jj'.length));have bu:Frm (fun k=>k=P∨ja=some k) w W3:=(Frm.of_below BG).next h4 fun x _ h=>.inr h;have Pc:Frm (fun k=>k=P∨ja=some k) w1 W3:=(Frm.of_below db).next h4 fun x _ h=>.inr h;have Q6:∀g,ja'=some g→g≠P:=fun g e e'=>by
  subst e';rcases(h1 g e).2 with h | h
  ·exact Tu h
  ·have:=BG.size;omega
 refine⟨rfl,x',ja',jj',be,fun g e=>⟨((h1 g e).1).set_ne _ (Q6 g e),?_⟩,av,h3,⟨w1,Pa,Pc.put _ _ fun _=>.inl rfl⟩,bu.put _ _ fun _=>.inl rfl⟩;rcases(h1 g e).2 with h | h
 ·exact .inl h
 ·exact .inr (lT BG.size h)
