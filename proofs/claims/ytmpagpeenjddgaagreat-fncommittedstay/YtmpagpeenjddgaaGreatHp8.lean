import Derived.Maps.OwnSet
import Derived.Maps.Views
import Derived.Test.YtmpagpeenjddgaaGreatHp1
set_option maxHeartbeats 9999999
set_option maxRecDepth 99999
set_option linter.all false
namespace Go.Proofs.YtmpagpeenjddgaaGreat
open Go.RowKit Fo
variable{key:ByteArray}{es junk rs:List E3}{g i m q:Nat}{φ:Nat->Option Nat}{S:Nat->Prop}{d:Nd}{a:Option Nat}{v:Value}{b w w':World}
structure aHF(w w':World)(u:Value)(d:Nd):Prop where
 ex:∃q a junk,u=.pointer (some ⟨q,0,none⟩)/\w.heap.size<=q/\(∀g,a=some g->w.heap.size<=g)/\aM w' q d a junk
 below:Bl w w'
theorem aM.dm(h:aM w q d a junk):Esl w (.slice (adr a) d.2.length (d.2.length+junk.length)) d.2:=by
 cases a with
 | none=>obtain⟨b,c⟩:=h.nil rfl;rw[b,c];exact .inl ⟨rfl,rfl⟩
 | some g=>exact .inr ⟨g,0,d.2.length+junk.length,d.2++junk,by simp[adr],(h.arr g rfl).1,by simp,by simp⟩
theorem aM.ae(h:aM w q d a junk)(k:Frm S w w')(c:¬S q)(b:∀g,a=some g->¬S g):aM w' q d a junk:=
 ⟨h.box.ae k c,fun g e=>⟨(h.arr g e).1.ae k (b g e),(h.arr g e).2⟩,h.nil,h.small⟩
theorem aM.below(h:aM w q d a junk)(k:Bl w w'):aM w' q d a junk:=h.ae (S:=fun _=>False) (Frm.aa k) (fun q=>q) (fun _ _ q=>q)
theorem aHF.box{w1:World}{a':Option Nat}{junk':List E3}(k:Int)(b:∀g,a'=some g->w.heap.size<=g/\IsC w1 g (cC (es++junk')) 130)(hn:a'=none->es=[]/\junk'=[])(c:es.length+junk'.length<=maxLen)(a:Bl w w1):
  aHF w (w1.alloc (.cells #[.int .i64 k,.slice (adr a') es.length (es.length+junk'.length)] 96)) (.pointer (some ⟨w1.heap.size,0,none⟩)) (k,es):=
 ⟨⟨w1.heap.size,a',junk',rfl,a.size,fun g e=>(b g e).1,⟨IsC.new _ _ _,fun g e=>⟨(b g e).2.alloc _,Nat.ne_of_lt (b g e).2.lt⟩,hn,c⟩⟩,a.alloc a.size _⟩
theorem gY(W:World)(k:Int)(b:Option Addr)(n c:Nat):(Instr.build 96 #[(0,.int .i64 k),(1,.slice b n c)]).run Tryz.prog W=.ok (.agg #[.int .i64 k,.slice b n c]) W:=by kernel_rfl
theorem aOF(W:World)(k:Int)(b:Option Addr)(n c:Nat):(Instr.box 96 (.agg #[.int .i64 k,.slice b n c])).run Tryz.prog W=.ok (.pointer (some ⟨W.heap.size,0,none⟩)) (W.alloc (.cells #[.int .i64 k,.slice b n c] 96)):=by kernel_rfl
theorem mQ(q:Nat)(d:Nd)(a:Option Nat)(b:List E3)(w:World)(h:aM w q d a b)(j:d.2.length<=10):
  Calls Tryz.prog 116 #[.pointer (some ⟨q,0,none⟩)] w fun e w'=>∃u,e=.returned u/\aHF w w' u d:=by
 obtain⟨k,es⟩:=d;have c0:w.cell? ⟨q,0,none⟩=some (.int .i64 k):=by rw[h.box.cell];rfl
 have c1:w.cell? ⟨q,1,none⟩=some (.slice (adr a) es.length (es.length+b.length)):=by rw[h.box.cell];rfl
 have i:=fun W=>pJ (.slice (adr a) es.length (es.length+b.length)) es W;have l:=h.dm;have r:=gY;have t:=aOF;clear i;go_enter Tryz.func116,Tryz.ntmps116;go_wp2_with fail;go_region_law (go_simp;go_at_call 135;refine(pJ _ es _ (by exact l) j).mono ?_;rintro e w1 ⟨x,rfl,m⟩;obtain⟨⟨s,c,rfl,n,g,o⟩,p⟩:=m;have f:Bl w w1:=(bQ w.heap.size w).drew.trans p;have v:w1.cell? ⟨q,0,none⟩=some (.int .i64 k):=(by rw[(h.below f).box.cell];rfl))
 all_goals go_wp2
 all_goals go_ret
 all_goals exact⟨_,rfl,aHF.box k n g o f⟩
theorem Frm.next{T:Nat->Prop}{a c:World}(h:Frm S a b)(k:Frm T b c)(f:∀x,x<a.heap.size->T x->S x):Frm S a c:=
 ⟨k.os.trans h.os,k.tape.trans h.tape,k.output.trans h.output,lT h.size k.size,fun i d e=>(k.block i (lL d h.size) (fun q=>e (f i d q))).trans (h.block i d e)⟩
theorem Frm.put{a:World}(h:Frm S a b)(p:Addr)(v:Value)(d:p.block<a.heap.size->S p.block):Frm S a (b.setCell p v):=
 h.next (T:=fun x=>x=p.block) (Frm.set (S:=fun x=>x=p.block) b rfl v) (fun x c e=>by rw[e]at c |-;exact d c)
def aBF(e:E3):Value:=.agg #[.string e.1,.string e.2.1,.int .i64 e.2.2]
theorem aM.some(h:aM w q d a junk)(b:0<d.2.length):∃g,a=some g/\IsC w g (cC (d.2++junk)) 130/\g≠q:=by
 cases a with
 | none=>obtain⟨c,_⟩:=h.nil rfl;rw[c]at b;simp at b
 | some g=>exact⟨g,rfl,h.arr g rfl⟩
theorem bJ{xs:List E3}(h:IsC w g (cC xs) 130)(a:i<xs.length):w.cell? ⟨g,i*3,none⟩=some (.string (xs.getD i e0).1)/\w.cell? ⟨g,i*3+1,none⟩=some (.string (xs.getD i e0).2.1)/\w.cell? ⟨g,i*3+2,none⟩=some (.int .i64 (xs.getD i e0).2.2):=by
 rw[h.cell,h.cell,h.cell];exact aJR xs a
theorem gV(q g:Nat)(k:Int)(es a:List E3)(i:Nat)(w:World)(h:aM w q (k,es) (some g) a)(F:es.length<=10)(s:i<es.length):
  Calls Tryz.prog 106 #[.pointer (some ⟨q,0,none⟩),.int .i64 i] w fun e w'=>e=.returned (aBF (es.getD i e0))/\(∃junk',aM w' q (k,delE es i) (some g) junk')/\Frm (fun x=>x=q\/x=g) w w':=by
 obtain⟨m,n⟩:=h.arr g rfl;simp only at m;have t:=h.small;simp only at t;have T:es.length+a.length<=9223372036854775807:=by simp[maxLen]at t;omega
 have c1:w.cell? ⟨q,1,none⟩=some (.slice (some ⟨g,0,none⟩) es.length (es.length+a.length)):=by rw[h.box.cell];rfl
 have N:=h.box.lt;have U:=m.lt;obtain⟨y,z,A⟩:=bJ m (i:=i) (by rw[lP];omega);have D:(es++a).getD i e0=es.getD i e0:=by rw[dB,if_pos s]
 rw[D]at y z A;generalize es.getD i e0=E at *;obtain⟨f,j,d⟩:=E;simp only at y z A;go_enter Tryz.func106,Tryz.ntmps106;go_wp2_with fail;rw[show((i:Int)+1)=((i+1:Nat):Int) by omega];refine(rS g es a i (i+1) _ ((m.alloc _).alloc _) (by omega) (by omega) F t).mono ?_;rintro e b ⟨rfl,u,hF⟩;have o:IsC b q _ 96:=((h.box.alloc _).alloc _).ae hF (fun e=>n e.symm);have r0:=(IsC.new w #[.string {data:=#[]},.string {data:=#[]},.int .i64 0] 130).alloc (.cells #[.string f,.string j,.int .i64 d] 130);have r1:=IsC.new (w.alloc (.cells #[.string {data:=#[]},.string {data:=#[]},.int .i64 0] 130)) #[.string f,.string j,.int .i64 d] 130;rw[World.size_alloc]at r1;have r0:=r0.ae hF (by omega);have r1:=r1.ae hF (by omega);have O:b.cell? ⟨q,1,none⟩=some (.slice (some ⟨g,0,none⟩) es.length (es.length+a.length)):=o.c rfl;have P:=o.frozen 1;have V:b.cell? ⟨w.heap.size+1,0,none⟩=some (.string f):=r1.c rfl;have W:b.cell? ⟨w.heap.size+1,1,none⟩=some (.string j):=r1.c rfl;have X:b.cell? ⟨w.heap.size+1,2,none⟩=some (.int .i64 d):=r1.c rfl;have K:b.cell? ⟨w.heap.size,0,none⟩=some (.string {data:=#[]}):=r0.c rfl;have L:b.cell? ⟨w.heap.size,1,none⟩=some (.string {data:=#[]}):=r0.c rfl;have M:b.cell? ⟨w.heap.size,2,none⟩=some (.int .i64 0):=r0.c rfl;have Q:=r0.frozen 0;have R:=r0.frozen 1;have S:=r0.frozen 2;have H:¬w.heap.size=q:=by omega
 have I:¬w.heap.size+1=q:=by omega
 have c:¬q=w.heap.size:=by omega
 have J:¬q=w.heap.size+1:=by omega
 go_wp2
 refine bodyPost_ret (v:=aBF (f,j,d)) ?_ rfl ?_
 ·simp[results,Tryz.f106,go_sem,aBF,K,L,M]
 ·refine⟨rfl,⟨[e0]++a,?_,fun g' e=>?_,fun e=>(by cases e),?_⟩,?_⟩
  ·have:=(((o.set 1 (.slice (some ⟨g,0,none⟩) (es.length-1) (es.length+a.length))).set_ne (p:=⟨w.heap.size,0,none⟩) (.string f) c).set_ne (p:=⟨w.heap.size,1,none⟩) (.string j) c).set_ne (p:=⟨w.heap.size,2,none⟩) (.int .i64 d) c
   have r:(delE es i).length=es.length-1:=bM es i s;simp only[adr,Option.map_some,r];have B:es.length-1+([e0]++a).length=es.length+a.length:=by simp;omega
   rw[B];exact this
  ·cases e
   refine⟨?_,n⟩;have C:es.take i++es.drop (i+1)++(List.replicate (i+1-i) e0++a)=delE es i++([e0]++a):=by
    rw[show i+1-i=1 by omega];rfl
   rw[C]at u;exact(((u.set_ne (p:=⟨q,1,none⟩) _ n).set_ne (p:=⟨w.heap.size,0,none⟩) (.string f) (by simp;omega)).set_ne (p:=⟨w.heap.size,1,none⟩) (.string j) (by simp;omega)).set_ne (p:=⟨w.heap.size,2,none⟩) (.int .i64 d) (by simp;omega)
  ·have r:(delE es i).length=es.length-1:=bM es i s
   simp only[r];simp;omega
  ·have G:Frm (fun x=>x=q\/x=g) w b:=((Frm.alloc _ w _).next (Frm.alloc (fun _=>False) _ _) (fun _ _ q=>q.elim)).next hF (fun x _ e=>.inr e)
   exact(((G.put ⟨q,1,none⟩ _ (fun _=>.inl rfl)).put ⟨w.heap.size,0,none⟩ _ (fun l=>by simp at l)).put ⟨w.heap.size,1,none⟩ _ (fun l=>by simp at l)).put ⟨w.heap.size,2,none⟩ _ (fun l=>by simp at l)
theorem aGS{W w3:World}{q1:Nat}{k:Int}{j1:List E3}{a1:Option Nat}(h:aM w q (k,es) (some g) junk)(a:g≠q)(d:Bl w W)(u:m<=es.length)(s:w.heap.size<=q1)(b:∀x,a1=some x->w.heap.size<=x)(j:aM W q1 (k,es.drop m) a1 j1)(hF:Frm (fun x=>x=g) W w3)
  (f:IsC w3 g (cC (es.take m++es.drop es.length++(List.replicate (es.length-m) e0++junk))) 130) (v:es.length+junk.length<=maxLen):
  ∃q' a' j' junk',Ending.returned (.pointer (some ⟨q1,0,none⟩))=.returned (.pointer (some ⟨q',0,none⟩))/\w.heap.size<=q'/\(∀x,a'=some x->w.heap.size<=x)/\aM (w3.setCell ⟨q,1,none⟩ (.slice (some ⟨g,0,none⟩) (es.length -(es.length-m)) (es.length+junk.length))) q' (k,es.drop m) a' j'/\aM (w3.setCell ⟨q,1,none⟩ (.slice (some ⟨g,0,none⟩) (es.length -(es.length-m)) (es.length+junk.length))) q (k,es.take m) (some g) junk'/\Frm (fun x=>x=q\/x=g) w (w3.setCell ⟨q,1,none⟩ (.slice (some ⟨g,0,none⟩) (es.length -(es.length-m)) (es.length+junk.length))):=by
 have t:=h.box.lt;have y:=(h.arr g rfl).1.lt;have r:=h.below d;have i:Frm (fun x=>x=q) w3 (w3.setCell ⟨q,1,none⟩ (.slice (some ⟨g,0,none⟩) (es.length -(es.length-m)) (es.length+junk.length))):=Frm.set (S:=fun x=>x=q) w3 rfl _;have c:(es.take m).length=m:=by rw[List.length_take];omega
 refine⟨q1,a1,j1,List.replicate (es.length-m) e0++junk,rfl,s,b,(j.ae hF (by omega) (fun x e=>by have:=b x e;omega)).ae i (by omega) (fun x e=>by have:=b x e;omega),⟨?_,fun x e=>?_,fun e=>(by cases e),?_⟩,?_⟩
 ·have:=(r.box.ae hF (Ne.symm a)).set 1 (.slice (some ⟨g,0,none⟩) (es.length -(es.length-m)) (es.length+junk.length))
  simp only[adr,Option.map_some,c];have l:m+(List.replicate (es.length-m) e0++junk).length=es.length+junk.length:=by simp;omega
  rw[l];have n:es.length -(es.length-m)=m:=by omega
  rw[n]at this |-;exact this
 ·cases e
  refine⟨?_,a⟩;have o:es.drop es.length=[]:=List.drop_of_length_le (nR _);rw[o,List.append_nil]at f;exact f.set_ne (p:=⟨q,1,none⟩) _ a
 ·simp only[c];simp;omega
 ·exact((Frm.aa d).next hF (fun x _ e=>.inr e)).next i (fun x _ e=>.inl e)
theorem oX(q g:Nat)(k:Int)(es a:List E3)(w:World)(h:aM w q (k,es) (some g) a)(G:es.length<=10)(h3:2<es.length):
  Calls Tryz.prog 118 #[.pointer (some ⟨q,0,none⟩)] w fun e w'=>∃q' a' j' junk',e=.returned (.pointer (some ⟨q',0,none⟩))/\w.heap.size<=q'/\(∀x,a'=some x->w.heap.size<=x)/\aM w' q' (k,es.drop (es.length-2)) a' j'/\aM w' q (k,es.take (es.length-2)) (some g) junk'/\Frm (fun x=>x=q\/x=g) w w':=by
 obtain⟨n,i⟩:=h.arr g rfl;simp only at n;have f:=h.small;simp only at f;have V:es.length+a.length<=9223372036854775807:=by simp[maxLen]at f;omega
 have c0:w.cell? ⟨q,0,none⟩=some (.int .i64 k):=by rw[h.box.cell];rfl
 have c1:w.cell? ⟨q,1,none⟩=some (.slice (some ⟨g,0,none⟩) es.length (es.length+a.length)):=by rw[h.box.cell];rfl
 have N:=h.box.lt;have wt:=n.lt;obtain⟨m,l⟩:∃m,m=es.length-2:=⟨_,rfl⟩;rw[<-l];have b:(es.drop m).length=es.length-m:=List.length_drop;have v:∀W,IsC W g (cC (es++a)) 130->Esl W (.slice (some ⟨g,m*3,none⟩) (es.length-m) (es.length+a.length-m)) (es.drop m):=fun W d=>.inr ⟨g,m,es.length+a.length-m,es++a,by rw[b],d,by rw[b,lP];omega,by rw[b,List.drop_append_of_le_length (by omega),List.take_append_of_le_length (by rw[b];exact nR _),List.take_of_length_le (by rw[b];exact nR _)]⟩;have C:=v w n;have D:(es.drop m).length<=10:=by omega
 have R:(es.length:Int)-2=(m:Int):=by omega
 have S:IntKind.i64.wrap (m:Int)=(m:Int):=by rw[IntKind.wrap_i64];omega
 have Y:¬es.length+a.length=m:=by omega
 have Z:(m:Int)<=(es.length:Int):=by omega
 have K:m<=es.length:=by omega
 have L:m<es.length:=by omega
 have P:Hid (m=es.length-2):=l;have E:Hid ((es.drop m).length=es.length-m):=b;clear l b v;have O:=gY;have U:=aOF;go_enter Tryz.func118,Tryz.ntmps118;go_wp2_with fail;go_region_law (go_simp;go_at_call 135;refine(pJ _ (es.drop m) _ (by exact C) D).mono ?_;rintro e w1 ⟨v',rfl,I⟩;obtain⟨⟨a',junk',rfl,y,p,r⟩,A⟩:=I;have u:Bl w w1:=(bQ w.heap.size w).drew.trans A;have F:w1.cell? ⟨q,0,none⟩=some (.int .i64 k):=(by rw[(h.below u).box.cell];rfl))
 all_goals go_wp2_with fail
 all_goals
  have j:=aHF.box (w:=w) k y p r u;rw[E.out]at j;generalize d:(w1.alloc (.cells #[.int .i64 k,.slice (adr a') (es.length-m) (es.length-m+junk'.length)] 96))=W at j |-;have Q:Hid (w1.heap.size+1=W.heap.size):=by rw[<-d];exact(World.size_alloc _ _).symm
  clear d;obtain⟨⟨q1,T,X,z,J,M,B⟩,t⟩:=j;simp only[Value.pointer.injEq,sJ,Addr.mk.injEq,and_true]at z;subst z;have c:=h.below t;have u1:W.cell? ⟨q,1,none⟩=some (.slice (some ⟨g,0,none⟩) es.length (es.length+a.length)):=by rw[c.box.cell];rfl
  have s:=(c.arr g rfl).1;simp only at s;clear y p r F A c0 c1
 all_goals go_region_law (go_simp;go_at_call 127;refine(rS g es a m es.length _ (by exact s) L (nR _) G f).mono ?_;rintro e o ⟨rfl,H,hF⟩;have v1:o.cell? ⟨q,1,none⟩=some (.slice (some ⟨g,0,none⟩) es.length (es.length+a.length)):=(by rw[(c.box.ae (w':=o) ⟨hF.os,hF.tape,hF.output,hF.size,hF.block⟩ (fun e=>i e.symm)).cell];rfl);have v2:=(c.box.ae (w':=o) ⟨hF.os,hF.tape,hF.output,hF.size,hF.block⟩ (fun e=>i e.symm)).frozen 1)
 all_goals go_wp2
 all_goals go_ret
 all_goals exact aGS h i t K J M B ⟨hF.os,hF.tape,hF.output,hF.size,hF.block⟩ H f
def nN(x y:ByteArray):Int:=if kl x y=true then -1 else if kl y x=true then 1 else 0
theorem sN(x:ByteArray)(w:World):Calls Tryz.prog 136 #[.string x] w fun e w'=>e=.returned (.bool false)/\w=w':=by
 have h:(x.toList != x.toList)=false:=by simp
 go_enter Tryz.func136,Tryz.ntmps136
 go_wp2
 go_ret
 exact⟨by simp,rfl⟩
theorem wT(x y:ByteArray)(w:World):Calls Tryz.prog 121 #[.string x,.string y] w fun e w'=>e=.returned (.int .i64 (nN x y))/\w=w':=by
 have f:Hid (nN x y=if kl x y=true then -1 else if kl y x=true then 1 else 0):=rfl;go_enter Tryz.func121,Tryz.ntmps121;go_wp2_with fail;refine(sN _ _).mono ?_;rintro e w1 ⟨rfl,rfl⟩;go_wp2_with fail;refine(sN _ _).mono ?_;rintro e w1 ⟨rfl,rfl⟩;by_cases c:Op.bytesLess x.toList y.toList=true
 ·have b:Hid (nN x y=-1):=by rw[f.out,if_pos (show kl x y=true from c)];rfl
  go_wp2
  go_ret
  exact⟨by rw[b.out];rfl,rfl⟩
 ·have h:Op.bytesLess x.toList y.toList=false:=by simpa using c
  have d:¬kl x y=true:=c;by_cases a:x.toList=y.toList
  ·have g:(x.toList == y.toList)=true:=by simp[a]
   have b:Hid (nN x y=0):=by
    have:=gX a
    subst this;rw[f.out,eI];rfl
   clear c a d;go_wp2;go_ret;exact⟨by rw[b.out];rfl,rfl⟩
  ·have g:(x.toList == y.toList)=false:=by simp[a]
   have b:Hid (nN x y=1):=by
    rcases lH (Bool.eq_false_iff.2 d)with q | q
    ·exact absurd (by rw[q]) a
    ·rw[f.out,if_neg d,if_pos q];rfl
   clear c a d;go_wp2;go_ret;exact⟨by rw[b.out];rfl,rfl⟩
theorem xX(x y:ByteArray)(z:Int)(w:World):Calls Tryz.prog 177 #[.agg #[.string x,.string y,.int .i64 z]] w fun e w'=>e=.returned (.string x)/\Bl w w':=by
 have a:=(bQ w.heap.size w).alloc (nR _) (.cells #[.string x,.string y,.int .i64 z] 130);go_enter Tryz.func177,Tryz.ntmps177;go_wp2;go_ret;exact⟨rfl,a⟩
theorem tC(v:Value)(w:World):(Go.method 335 130 v "loop.example/s01595/impl.sortKey").run Tryz.prog w=.ok (177,v) w:=by kernel_rfl
theorem oR(x y:ByteArray)(z:Int)(k:ByteArray)(w:World):Calls Tryz.prog 120 #[.agg #[.string x,.string y,.int .i64 z],.string k] w fun e w'=>e=.returned (.int .i64 (nN x k))/\Bl w w':=by
 have b:=(bQ w.heap.size w).alloc (nR _) (.cells #[.string x,.string y,.int .i64 z] 130);have d:=tC;go_enter Tryz.func120,Tryz.ntmps120;go_wp2_with fail;refine(xX x y z _).mono ?_;rintro e w1 ⟨rfl,a⟩;have c:=b.trans (a.mono b.size);clear a;go_wp2_with fail;refine(wT _ _ _).mono ?_;rintro e f ⟨rfl,rfl⟩;go_wp2;go_ret;exact⟨rfl,c⟩
def NRd(w:World)(v:Value)(es:List E3):Prop:=
 ∃a cap,v=.slice a es.length cap/\(0<es.length->∃b off,a=some ⟨b,off,none⟩/\∀i,i<es.length->w.cell? ⟨b,off+i*3,none⟩=some (.string (es.getD i e0).1)/\w.cell? ⟨b,off+i*3+1,none⟩=some (.string (es.getD i e0).2.1)/\w.cell? ⟨b,off+i*3+2,none⟩=some (.int .i64 (es.getD i e0).2.2))
theorem Esl.en(h:Esl w v es):NRd w v es:=by
 rcases h with⟨rfl,rfl⟩ | ⟨g,o,a,xs,rfl,m,l,f⟩
 ·exact⟨none,0,rfl,fun q=>by simp at q⟩
 ·refine⟨_,a,rfl,fun _=>⟨g,o*3,rfl,fun i k=>?_⟩⟩
  have b:=Esl.cells m l f;have n:∀j,(⟨g,o*3,none⟩:Addr).add j=⟨g,o*3+j,none⟩:=fun j=>by unfold Addr.add;split<;>simp_all
  obtain⟨r1,r2,r3⟩:=lB es k;have c:=b _ _ r1;have d:=b _ _ r2;have e:=b _ _ r3;rw[n]at c d e;exact⟨c,d,e⟩
theorem aFA{x y:ByteArray}:(nN x y == 0)=(x.toList == y.toList):=by
 unfold nN;by_cases a:kl x y=true
 ·rw[if_pos a]
  have:x.toList≠y.toList:=fun e=>by have:=gX e;subst this;rw[eI]at a;cases a
  simp[this]
 ·rw[if_neg a]
  rcases lH (Bool.eq_false_iff.2 a)with rfl | b
  ·rw[eI];simp
  ·rw[if_pos b]
   have:x.toList≠y.toList:=fun e=>by have:=gX e;subst this;rw[eI]at b;cases b
   simp[this]
def kN(rs:List E3)(key:ByteArray)(e:Ending):Prop:=e=.returned (.tuple #[.int .i64 (cLt rs key),.bool (fI rs key)])
theorem aEJ(c:Srt rs)(h1:i<=rs.length)(h2:∀a,a<i->kl (rs.getD a e0).1 key=true)(h3:∀a,i<=a->a<rs.length->kl (rs.getD a e0).1 key=false):cLt rs key=i:=by
 have d:=kV rs key;refine Nat.le_antisymm (Nat.le_of_not_lt fun b=>?_) (Nat.le_of_not_lt fun b=>?_)
 ·have:=(iD c key (j:=i) (by omega)).2 b
  rw[show ky rs i=(rs.getD i e0).1 from rfl,h3 i (nR _) (by omega)]at this;cases this
 ·have:=(iD c key (j:=cLt rs key) (by omega)).1 (h2 _ b);omega
theorem kN.yes(b:Srt rs)(h1:i<rs.length)(h2:∀a,a<i->kl (rs.getD a e0).1 key=true)(h3:∀a,i<=a->a<rs.length->kl (rs.getD a e0).1 key=false){cv:Int}(hc:nN (rs.getD i e0).1 key=cv):kN rs key (.returned (.tuple #[.int .i64 i,.bool (cv == 0)])):=by
 have e:=aEJ b (by omega) h2 h3;unfold kN fI;rw[e,<-hc,aFA];simp[h1,ky]
theorem kN.no(b:Srt rs)(h2:∀a,a<rs.length->kl (rs.getD a e0).1 key=true):kN rs key (.returned (.tuple #[.int .i64 rs.length,.bool false])):=by
 have e:=aEJ b (nR _) h2 (fun a c h2=>by omega);unfold kN fI;rw[e];simp
theorem aAL(v:Value)(rs:List E3)(key:ByteArray)(w:World)(Q:NRd w v rs)(hn:rs.length<=1048576)(s:Srt rs):
  Calls Tryz.prog 119 #[v,.string key,.func (.func 120) #[] #[]] w fun e w'=>Bl w w'/\kN rs key e:=by
 obtain⟨a,M,rfl,n⟩:=Q;go_enter Tryz.func119,Tryz.ntmps119;go_wp2;go_loopw [9,10] (fun u v wr=>∃i j:Nat,i<=j/\j<=rs.length/\u=.int .i64 i/\v=.int .i64 j/\Bl w wr/\(∀a,a<i->kl (rs.getD a e0).1 key=true)/\∀a,j<=a->a<rs.length->kl (rs.getD a e0).1 key=false) (fun u v _=>(intOf v).toNat -(intOf u).toNat)
 case atStart=>exact⟨0,rs.length,Nat.zero_le _,nR _,rfl,rfl,bQ _ _,fun a O=>by omega,fun a N G=>by omega⟩
 case round=>
  obtain⟨i,j,V,P,rfl,rfl,c,t,o⟩:=hrel;by_cases U:i<j
  ·obtain⟨b,off,rfl,l⟩:=n (by omega)
   have T:i<=(i+j) / 2/\(i+j) / 2<j:=by omega
   obtain⟨g1,d,f⟩:=l ((i+j) / 2) (by omega);have k:b<w.heap.size:=World.block_lt_of_cell? _ _ g1;rw[<-c.cell (p:=⟨b,off+(i+j) / 2*3,none⟩) k]at g1;rw[<-c.cell (p:=⟨b,off+(i+j) / 2*3+1,none⟩) k]at d;rw[<-c.cell (p:=⟨b,off+(i+j) / 2*3+2,none⟩) k]at f;have R:(i:Int) <(j:Int):=by omega
   obtain⟨p,g⟩:∃p,Hid (rs.getD ((i+j) / 2) e0=p):=⟨_,rfl⟩;rw[g.out]at g1 d f;obtain⟨x,y,z⟩:=p;simp only at g1 d f;have q:Hid (∀a,a<i->kl (rs.getD a e0).1 key=true):=t;have C:Hid (∀a,j<=a->a<rs.length->kl (rs.getD a e0).1 key=false):=o;clear n l t o;go_wp2_with fail;refine(oR x y z key _).mono ?_;rintro e w1 ⟨rfl,m⟩;have r:=c.trans (m.mono c.size);have E:Hid (nN x key=if kl x key=true then -1 else if kl key x=true then 1 else 0):=rfl;clear g1 d f m c;by_cases h:kl x key=true
   ·rw[E.out,if_pos h]
    have I:Hid (∀a,a <(i+j) / 2+1->kl (rs.getD a e0).1 key=true):=fun a O=>by
     by_cases e:a=(i+j) / 2
     ·rw[e,g.out];exact h
     ·have:=s a ((i+j) / 2) (by omega) (by omega)
      rw[show ky rs ((i+j) / 2)=(rs.getD ((i+j) / 2) e0).1 from rfl,g.out]at this;exact kO this h
    go_wp2
    go_roundw
    case rel=>exact⟨(i+j) / 2+1,j,by omega,P,by go_num,rfl,r,I.out,C.out⟩
    case measure=>simp[intOf];omega
   ·have S:¬nN x key<0:=by rw[E.out,if_neg h];split<;>omega
    have L:Hid (∀a,(i+j) / 2<=a->a<rs.length->kl (rs.getD a e0).1 key=false):=fun a N G=>by
     by_cases e:a=(i+j) / 2
     ·rw[e,g.out];exact Bool.eq_false_iff.2 h
     ·have:=s ((i+j) / 2) a (by omega) G
      rw[show ky rs ((i+j) / 2)=(rs.getD ((i+j) / 2) e0).1 from rfl,g.out]at this;exact gQ (Bool.eq_false_iff.2 h) (fJ this)
    generalize nN x key=cv at *;clear h;go_wp2;go_roundw
    case rel=>exact⟨i,(i+j) / 2,by omega,by omega,rfl,by go_num,r,q.out,L.out⟩
    case measure=>simp[intOf];omega
  ·have J:i=j:=by omega
   subst J;have q:Hid (∀a,a<i->kl (rs.getD a e0).1 key=true):=t;have C:Hid (∀a,i<=a->a<rs.length->kl (rs.getD a e0).1 key=false):=o;clear t o;by_cases H:i<rs.length
   ·obtain⟨b,off,rfl,l⟩:=n (by omega)
    obtain⟨g1,d,f⟩:=l i H;have k:b<w.heap.size:=World.block_lt_of_cell? _ _ g1;rw[<-c.cell (p:=⟨b,off+i*3,none⟩) k]at g1;rw[<-c.cell (p:=⟨b,off+i*3+1,none⟩) k]at d;rw[<-c.cell (p:=⟨b,off+i*3+2,none⟩) k]at f;have K:(i:Int) <(rs.length:Int):=by omega
    obtain⟨p,g⟩:∃p,Hid (rs.getD i e0=p):=⟨_,rfl⟩;rw[g.out]at g1 d f;obtain⟨x,y,z⟩:=p;simp only at g1 d f;clear n l;go_wp2_with fail;refine(oR x y z key _).mono ?_;rintro e w1 ⟨rfl,m⟩;have r:=c.trans (m.mono c.size);have F:∀cv,nN x key=cv->Hid (kN rs key (.returned (.tuple #[.int .i64 i,.bool (cv == 0)]))):=fun cv D=>kN.yes s H q.out C.out (by rw[g.out];exact D);generalize D:nN x key=cv at *;have B:=F cv rfl;clear g1 d f m c F D;go_wp2;exact bodyPost_ret (v:=.tuple #[.int .i64 i,.bool (cv == 0)]) (by simp[results,Tryz.results119,go_sem]) rfl ⟨r,B.out⟩
   ·clear n
    have K:¬(i:Int) <(rs.length:Int):=by omega
    have A:i=rs.length:=by omega
    have B:Hid (kN rs key (.returned (.tuple #[.int .i64 i,.bool false]))):=(by rw[A];exact kN.no s (by rw[<-A];exact q.out));clear A;go_wp2;exact bodyPost_ret (v:=.tuple #[.int .i64 i,.bool false]) (by simp[results,Tryz.results119,go_sem]) rfl ⟨c,B.out⟩
theorem iJ(v:Value)(rs:List E3)(key:ByteArray)(w:World)(c:NRd w v rs)(hn:rs.length<=1048576)(h:Srt rs):
  Calls Tryz.prog 101 #[v,.string key] w fun e w'=>Bl w w'/\kN rs key e:=by
 obtain⟨a,b,d,g⟩:=id c;subst d;have i:∀(fn:Fn) (first b:Array Value) (w:World),(Instr.makeFunc fn first b).run Tryz.prog w=.ok (.func fn first b) w:=fun _ _ _ _=>rfl;clear g;go_enter Tryz.func101,Tryz.ntmps101;go_wp2_with fail;refine(aAL _ rs key _ c hn h).mono ?_;rintro e w1 ⟨f,rfl⟩;go_wp2;exact bodyPost_ret (v:=.tuple #[.int .i64 (cLt rs key),.bool (fI rs key)]) (by simp[results,Tryz.results101,go_sem]) rfl ⟨f,rfl⟩
theorem aBT(c:Srt es)(key:ByteArray):bI es key=if fI es key=true\/cLt es key=0 then cLt es key else cLt es key-1:=by
 have i:=kV es key;have k:=wO es key;unfold bI;by_cases d:fI es key=true
 ·rw[if_pos (.inl d)]
  obtain⟨h,g⟩:=(dK es key).1 d;have a:cLt es key<cLe es key:=(gH c key h).1 (by rw[g];exact eI _);have b:¬cLt es key+1<cLe es key:=fun q=>by
   have:=(gH c key (j:=cLt es key+1) (by omega)).2 q
   have f:=c (cLt es key) (cLt es key+1) (by omega) (by omega);rw[g,this]at f;cases f
  omega
 ·have e:cLe es key=cLt es key:=by
   refine Nat.le_antisymm (Nat.le_of_not_lt fun q=>?_) (Nat.le_of_not_lt fun q=>?_)
   ·have a:=(gH c key (j:=cLt es key) (by omega)).2 q
    rcases lH a with e | e
    ·exact d ((dK es key).2 ⟨by omega,e.symm⟩)
    ·have:=(iD c key (j:=cLt es key) (by omega)).1 e;omega
   ·have a:=(iD c key (j:=cLe es key) (by omega)).2 q
    have:=(gH c key (j:=cLe es key) (by omega)).1 (fJ a);omega
  rw[e];split
  ·rename_i q;rcases q with q | q
   ·exact absurd q d
   ·omega
  ·rfl
theorem gC(q:Nat)(d:Nd)(a:Option Nat)(b:List E3)(w:World)(h:aM w q d a b):
  Calls Tryz.prog 124 #[.pointer (some ⟨q,0,none⟩)] w fun e w'=>e=.returned (.bool (decide (2<d.2.length)))/\w'=w:=by
 have c:w.cell? ⟨q,1,none⟩=some (.slice (adr a) d.2.length (d.2.length+b.length)):=by rw[h.box.cell];rfl
 have f:d.2.length+b.length<=9223372036854775807:=by have:=h.small;simp[maxLen]at this;omega
 go_enter Tryz.func124,Tryz.ntmps124
 go_wp2
 go_ret
 exact⟨by simp;omega,rfl⟩
theorem iE(q:Nat)(d:Nd)(a:Option Nat)(b:List E3)(key:ByteArray)(w:World)(h:aM w q d a b)(l:Srt d.2)(o:d.2.length<=10):
  Calls Tryz.prog 103 #[.pointer (some ⟨q,0,none⟩),.string key] w fun e w'=>e=.returned (.int .i64 (bI d.2 key))/\Bl w w':=by
 obtain⟨k,es⟩:=d;simp only at l o |-;have t:w.cell? ⟨q,1,none⟩=some (.slice (adr a) es.length (es.length+b.length)):=by rw[h.box.cell];rfl
 have i:Hid (bI es key=if fI es key=true\/cLt es key=0 then cLt es key else cLt es key-1):=aBT l key;have p:NRd w (.slice (adr a) es.length (es.length+b.length)) es:=h.dm.en;have r:=kV es key;go_enter Tryz.func103,Tryz.ntmps103;go_wp2_with fail;refine(iJ _ es key _ p (by omega) l).mono ?_;rintro e w1 ⟨j,rfl⟩;by_cases c1:fI es key=true
 ·have c:Hid (bI es key=cLt es key):=by rw[i.out,if_pos (.inl c1)];rfl
  rw[c1];generalize cLt es key=n at *;go_wp2;go_ret;exact⟨by rw[c.out];simp,j⟩
 ·have f:fI es key=false:=Bool.eq_false_iff.2 c1
  by_cases g:cLt es key=0
  ·have c:Hid (bI es key=0):=by rw[i.out,if_pos (.inr g),g];rfl
   rw[f,g];clear g;go_wp2;go_ret;exact⟨by rw[c.out];simp,j⟩
  ·have c:Hid (bI es key=cLt es key-1):=by rw[i.out,if_neg (fun q=>q.elim c1 g)];rfl
   rw[f];generalize cLt es key=n at *;obtain⟨m,rfl⟩:∃m,n=m+1:=⟨n-1,by omega⟩;have s:(((m+1:Nat):Int) == 0)=false:=by rw[beq_eq_false_iff_ne];omega
   go_wp2
   go_ret
   exact⟨by rw[c.out];simp,j⟩
def tM(v:Value):Option (DataW Unit×List MemPlace):=match v with
 | .pointer none=>some (.lit (.int .i64 (-1)),[])
 | .pointer (some p)=>if p.off=0/\p.spot=none then some (.lit (.int .i64 p.block),[])else none
 | _=>none
theorem aAE{d:DataW Unit}{ps:List MemPlace}(h:tM v=some (d,ps)):(v=.pointer none/\d=.lit (.int .i64 (-1)))\/∃q:Nat,v=.pointer (some ⟨q,0,none⟩)/\d=.lit (.int .i64 q):=by
 unfold tM at h;split at h
 ·cases h;exact .inl ⟨rfl,rfl⟩
 ·rename_i p
  split at h
  ·rename_i a
   cases h
   obtain⟨b,off,c⟩:=p;simp only at a;obtain⟨rfl,rfl⟩:=a;exact .inr ⟨b,rfl,rfl⟩
  ·cases h
 ·cases h
def eV(x:Option Nat):Value:=.pointer (x.map fun q=>⟨q,0,none⟩)
def uW(x:Option Nat):DataW Unit:=.lit (.int .i64 (match x with
 | some q=>(q:Int)
 | none=>-1))
def aHW(φ:Nat->Option Nat):Nat:=cY 512 fun b=>if(φ b).isSome then 1 else 0
theorem aLE(φ:Nat->Option Nat):aHW φ<=512:=by
 have:∀n,cY n (fun b=>if(φ b).isSome then 1 else 0)<=n:=fun n=>by
  induction n with
  | zero=>exact nR _
  | succ n ih=>simp only[cY];split<;>omega
 exact this 512
theorem yP(φ:Nat->Option Nat){b:Nat}(a:b<512)(x:Option Nat):aHW (upd φ b x)+(if(φ b).isSome then 1 else 0)=aHW φ+(if x.isSome then 1 else 0):=by
 have:=mF (n:=512) (g:=fun b=>if(φ b).isSome then 1 else 0) (g':=fun y=>if(upd φ b x y).isSome then 1 else 0) a (fun y c=>by simp only[aC _ _ c])
 simpa [aHW,aD] using this
abbrev kB(b:Nat):Lit:=.int .i64 b
theorem pL{a b:Nat}(h:kB a=kB b):a=b:=by
 simp only[kB,Lit.int.injEq,true_and]at h;omega
def dU(w:World)(m:Nat)(φ:Nat->Option Nat):Prop:=
 ∃D,w.ownsMap Tryz.prog 2 tM m (Maps.size D) D/\Maps.size D=aHW φ/\(∀b,b<512->Maps.has D (kB b)=(φ b).isSome)/\∀b,b<512->D.atKey (kB b) (uW none)=uW (φ b)
theorem gJ:Maps.Keyed Tryz.prog 2:=Maps.int_keyed (q:=.i64) Tryz.underlying2
theorem zO(b:Nat)(d:b<512):keyOf Tryz.prog 2 (.int .i64 b)=some (kB b):=by
 have a:IntKind.i64.min=-9223372036854775808:=by decide
 have c:IntKind.i64.max=9223372036854775807:=by decide
 refine Maps.keyOf_int_mk Tryz.underlying2 ?_;unfold Lit.wf;simp only[a,c,Bool.and_eq_true,decide_eq_true_eq];omega
theorem dU.lookup(h:dU w m φ)(b:Nat)(c:b<512):(Instr.lookup 64 (.map (some m)) (.int .i64 b) false).run Tryz.prog w=.ok (eV (φ b)) w:=by
 obtain⟨D,f,l,n,g⟩:=h;have j:(zeroValue 93).run Tryz.prog w=.ok (.pointer none) w:=by kernel_rfl
 obtain⟨v,ps,i,d⟩:=f.lookup gJ Tryz.underlying64 j (zd:=uW none) (zp:=[]) rfl (zO b c);rw[g b c]at d;rw[i];rcases aAE d with⟨rfl,e⟩ | ⟨q,rfl,e⟩
 ·cases a:φ b with
  | none=>rfl
  | some q=>
   rw[a]at e;simp only[uW,DataW.lit.injEq,Lit.int.injEq,true_and]at e;omega
 ·cases a:φ b with
  | none=>
   rw[a]at e;simp only[uW,DataW.lit.injEq,Lit.int.injEq,true_and]at e;omega
  | some k=>
   rw[a]at e;simp only[uW,DataW.lit.injEq,Lit.int.injEq,true_and]at e;have:k=q:=by omega
   subst this;rfl
theorem dU.of(h:dU w m φ)(he:w'.heap[m]?=w.heap[m]?):dU w' m φ:=by
 obtain⟨D,⟨es,cl,a,b⟩,c,d,e⟩:=h;exact⟨D,⟨es,cl,he.trans a,b⟩,c,d,e⟩
theorem dU.lt(h:dU w m φ):m<w.heap.size:=by
 obtain⟨D,a,_⟩:=h;exact a.lt
theorem dU.tight{n:Nat}{D:DataW Unit}(h:w.ownsMap Tryz.prog 2 tM m n D):w.ownsMap Tryz.prog 2 tM m (Maps.size D) D:=by
 obtain⟨es,cl,a,b,c,rfl⟩:=h;exact⟨es,cl,a,b,by simp[Maps.size,length_sorted],rfl⟩
theorem dU.put(h:dU w m φ)(b q:Nat)(f:b<512):∃w',(Instr.mapUpdate 64 (.map (some m)) (.int .i64 b) (.pointer (some ⟨q,0,none⟩))).run Tryz.prog w=.ok () w'/\dU w' m (upd φ b (some q))/\Frm (fun k=>k=m) w w':=by
 obtain⟨D,j,l,n,r⟩:=h;have ht:=j.tidy gJ;have z:=aLE φ;obtain⟨w',v,u,a⟩:=j.update gJ Tryz.underlying64 (by rw[l];simp[maxLen];omega) (zO b f) (val:=.pointer (some ⟨q,0,none⟩)) (d:=uW (some q)) (ps:=[]) (by simp[tM,uW]);have p:WideAt.IsKeyLit (kB b):=gJ.key (zO b f);refine⟨w',v,⟨D.put (kB b) (uW (some q)),dU.tight u,?_,fun x g=>?_,fun x g=>?_⟩,⟨a.os,a.tape,a.output,a.size,fun k s t=>a.block k s (fun e=>t (Option.some.inj e))⟩⟩
 ·have i:=Maps.size_put (k:=kB b) ht (uW (some q))
  have c:=yP φ f (some q);rw[n b f]at i;rw[i,l];cases o:φ b with
  | none=>rw[o]at c;simp at c |-;omega
  | some y=>rw[o]at c;simp at c |-;omega
 ·by_cases e:x=b
  ·subst e;rw[Maps.has_put_same ht.isMap p,aD];rfl
  ·rw[Maps.has_put_other (fun q=>e (pL q)),aC _ _ e];exact n x g
 ·by_cases e:x=b
  ·subst e;rw[Maps.atKey_put_same ht.isMap p,aD]
  ·rw[Maps.atKey_put_other (fun q=>e (pL q)),aC _ _ e];exact r x g
theorem dU.del(h:dU w m φ)(b:Nat)(f:b<512)(n:TypeId):∃w',(Builtin.delete_ #[64,2] n #[.map (some m),.int .i64 b]).run Tryz.prog w=.ok (.tuple #[]) w'/\dU w' m (upd φ b none)/\Frm (fun k=>k=m) w w':=by
 obtain⟨D,i,u,j,o⟩:=h;have ht:=i.tidy gJ;obtain⟨w',t,s,a⟩:=i.drop gJ Tryz.underlying64 (zO b f) n;have a:=a.grown;refine⟨w',t,⟨D.del (kB b),dU.tight s,?_,fun x g=>?_,fun x g=>?_⟩,⟨a.os,a.tape,a.output,a.size,fun k p r=>a.block k p (fun e=>r (Option.some.inj e))⟩⟩
 ·have c:=Maps.size_del (k:=kB b) ht
  have d:=yP φ f none;rw[j b f]at c;cases l:φ b with
  | none=>rw[l]at c d;simp at c d;omega
  | some y=>rw[l]at c d;simp at c d;omega
 ·by_cases e:x=b
  ·subst e;rw[Maps.has_del_same,aD];rfl
  ·rw[Maps.has_del_other (fun q=>e (pL q)),aC _ _ e];exact j x g
 ·by_cases e:x=b
  ·subst e;rw[Maps.atKey_del_same,aD]
  ·rw[Maps.atKey_del_other (fun q=>e (pL q)),aC _ _ e];exact o x g
abbrev JE:=Int×Int×Option Nat
abbrev j0:JE:=(0,0,none)
def cE(e:JE):List Value:=[.int .i64 e.1,.int .i64 e.2.1,eV e.2.2]
def jA(l:List JE):Array Value:=(l.flatMap cE).toArray
theorem aNN:(Tryz.prog.info? 178).map (fun i=>(i.zero,i.size,i.bytes))=some (some (.agg #[.int .i64 0,.int .i64 0,.pointer none]),3,24):=by kernel_rfl
theorem aOK:∃i,Tryz.prog.info? 178=some i/\i.size=3/\i.bytes=24/\i.zero=some (.agg #[.int .i64 0,.int .i64 0,.pointer none]):=by
 have h:=aNN;cases e:Tryz.prog.info? 178 with
 | none=>rw[e]at h;cases h
 | some i=>
  rw[e]at h;simp only[Option.map_some,sJ,Prod.mk.injEq]at h;exact⟨i,rfl,h.2.1,h.2.2,h.1⟩
theorem aGQ(es a vs:List JE)(h:vs.length<=a.length):spl (es++a) es.length vs=es++vs++a.drop vs.length:=by
 unfold spl;rw[List.take_left,<-List.drop_drop,List.drop_left]
theorem aOU{need old:Nat}(h:need<=1000000)(a:old<need):Builtin.nextslicecap need old*24<=281474976710656:=growslice_fits (bytes:=24) (need:=need) (old:=old) (by omega) (by omega)
theorem cV(es:List JE):(es.flatMap cE).length=es.length*3:=by
 induction es with
 | nil=>rfl
 | cons e es ih=>simp only[List.flatMap_cons,lP,ih,List.length_cons];simp[cE];omega
theorem aGK(es:List JE):(jA es).size=es.length*3:=by unfold jA;rw[List.size_toArray,cV]
theorem sA(es:List JE)(b:i<es.length):(es.flatMap cE)[i*3]?=some (.int .i64 (es.getD i j0).1)/\(es.flatMap cE)[i*3+1]?=some (.int .i64 (es.getD i j0).2.1)/\(es.flatMap cE)[i*3+2]?=some (eV (es.getD i j0).2.2):=by
 induction es generalizing i with
 | nil=>simp at b
 | cons e es ih=>
  cases i with
  | zero=>simp[cE]
  | succ i=>
   have:=ih (i:=i) (by simpa using b)
   have c:(e :: es).flatMap cE=cE e++es.flatMap cE:=List.flatMap_cons;have a:(cE e).length=3:=rfl;rw[c];rw[List.getElem?_append_right (by rw[a];omega),List.getElem?_append_right (by rw[a];omega),List.getElem?_append_right (by rw[a];omega),a];rw[show(i+1)*3-3=i*3 by omega,show(i+1)*3+1-3=i*3+1 by omega,show(i+1)*3+2-3=i*3+2 by omega];simpa using this
theorem aJS(es:List JE)(a:i<es.length):(jA es)[i*3]?=some (.int .i64 (es.getD i j0).1)/\(jA es)[i*3+1]?=some (.int .i64 (es.getD i j0).2.1)/\(jA es)[i*3+2]?=some (eV (es.getD i j0).2.2):=by
 simpa [jA] using sA es a
theorem aEY(es:List JE):∀v∈es.flatMap cE,v.oneCell'=true:=fun v b=>by
 obtain⟨e,_,a⟩:=List.mem_flatMap.1 b;simp only[cE,List.mem_cons,List.not_mem_nil,or_false]at a;rcases a with rfl | rfl | rfl<;>rfl
theorem wC(xs ys:List JE)(i:Nat):spl (xs.flatMap cE) (i*3) (ys.flatMap cE)=(spl xs i ys).flatMap cE:=by
 have c:∀(l:List JE) (n:Nat),(l.flatMap cE).take (n*3)=(l.take n).flatMap cE:=by
  intro l;induction l with
  | nil=>intro n;simp
  | cons e l ih=>
   intro n;cases n with
   | zero=>simp
   | succ n=>
    have a:(cE e).length=3:=rfl;rw[List.flatMap_cons,List.take_succ_cons,List.flatMap_cons,List.take_append,a,List.take_of_length_le (by rw[a];omega),show(n+1)*3-3=n*3 by omega,ih]
 have b:∀(l:List JE) (n:Nat),(l.flatMap cE).drop (n*3)=(l.drop n).flatMap cE:=by
  intro l;induction l with
  | nil=>intro n;simp
  | cons e l ih=>
   intro n;cases n with
   | zero=>simp
   | succ n=>
    have a:(cE e).length=3:=rfl;rw[List.flatMap_cons,List.drop_succ_cons,List.drop_append,a,List.drop_of_length_le (by rw[a];omega),show(n+1)*3-3=n*3 by omega,ih,List.nil_append]
 unfold spl;rw[c,cV,<-Nat.add_mul,b,List.flatMap_append,List.flatMap_append]
def Jsl(w:World)(v:Value)(es:List JE):Prop:=
 (v=.slice none 0 0/\es=[])\/∃g o cap xs,v=.slice (some ⟨g,o*3,none⟩) es.length cap/\IsC w g (jA xs) 178/\o+es.length<=xs.length/\(xs.drop o).take es.length=es
theorem Jsl.cells{o:Nat}{xs es:List JE}(h:IsC w g (jA xs) 178)(f:o+es.length<=xs.length)(he:(xs.drop o).take es.length=es):∀j v,(es.flatMap cE)[j]?=some v->w.cell? ((⟨g,o*3,none⟩:Addr).add j)=some v:=fun j v a=>by
 have d:(⟨g,o*3,none⟩:Addr).add j=⟨g,o*3+j,none⟩:=by unfold Addr.add;split<;>simp_all
 rw[d,h.cell];have b:spl (xs.flatMap cE) (o*3) (es.flatMap cE)=xs.flatMap cE:=by
  rw[wC];congr 1;unfold spl;rw[<-he,List.length_take,List.length_drop,List.append_assoc];rw[show min es.length (xs.length-o)=es.length by omega];rw[<-List.drop_drop,List.take_append_drop,List.take_append_drop]
 have e:j <(es.flatMap cE).length:=(List.getElem?_eq_some_iff.1 a).1;have:(jA xs)[o*3+j]?=(xs.flatMap cE)[o*3+j]?:=by simp[jA]
 rw[this,<-b];unfold spl;have c:((xs.flatMap cE).take (o*3)).length=o*3:=by
  rw[List.length_take,cV];omega
 rw[List.append_assoc,List.getElem?_append_right (by omega),c,show o*3+j-o*3=j by omega,List.getElem?_append_left e];exact a
theorem aOQ(m:Nat):Builtin.zeroCells #[.int .i64 0,.int .i64 0,.pointer none] m=((List.replicate m j0).flatMap cE).toArray:=by
 apply Array.toList_inj.1
 simp only[Builtin.zeroCells,List.size_toArray,List.length_cons,List.length_nil,Array.toList_map,Array.toList_range];induction m with
 | zero=>rfl
 | succ m ih=>
  have b:List.range ((m+1)*3)=List.range (m*3)++[m*3,m*3+1,m*3+2]:=by
   rw[show(m+1)*3=m*3+1+1+1 by omega,List.range_succ,List.range_succ,List.range_succ];simp
  have a:List.replicate (m+1) j0=List.replicate m j0++[j0]:=List.replicate_succ';rw[a,List.flatMap_append,<-ih];simp only[Nat.zero_add,Nat.reduceAdd];rw[b,List.map_append];congr 1;simp only[List.map_cons,List.map_nil,show m*3 % 3=0 by omega,show(m*3+1) % 3=1 by omega,show(m*3+2) % 3=2 by omega];rfl
theorem aHN(a:Option Nat)(es b vs:List JE)(v:Value)(W:World)(l:∀g,a=some g->IsC W g (jA (es++b)) 178)(hn:a=none->es=[]/\b=[])(A:Jsl W v vs)(E:es.length+vs.length<=1000000)(F:es.length+b.length<=maxLen):
  ∃u W' a' junk',(∀ty,(Builtin.append_ #[65,65] ty #[.slice (adr a) es.length (es.length+b.length),v]).run Tryz.prog W=.ok u W')/\u=.slice (adr a') (es.length+vs.length) (es.length+vs.length+junk'.length)/\
   (∀g,a'=some g->IsC W' g (jA (es++vs++junk')) 178/\(a=some g\/W.heap.size<=g))/\(a'=none->es=[]/\vs=[]/\junk'=[])/\es.length+vs.length+junk'.length<=maxLen/\Frm (fun k=>a=some k) W W':=by
 obtain⟨c,j,h,p,C⟩:=aOK;have eS:Src Tryz.prog c.size 65 v vs.length (vs.flatMap cE) W:=by
  rcases A with⟨rfl,rfl⟩ | ⟨t,o,i,xs,rfl,B,y,x⟩
  ·exact Src.ofNil W Tryz.underlying65 0
  ·exact Src.ofSlice W Tryz.underlying65 ⟨t,o*3,none⟩ vs.length i _ (by rw[cV,h]) (Jsl.cells B y x) (aEY vs)
 by_cases n:vs.length<=b.length
 ·cases a with
  | none=>
   obtain⟨rfl,rfl⟩:=hn rfl;have r:vs=[]:=List.length_eq_zero_iff.1 (by simpa using n);subst r;refine⟨_,W,none,[],fun ty=>?_,rfl,fun g q=>(by cases q),fun _=>⟨rfl,rfl,rfl⟩,by simp,Frm.refl _ _⟩;have:=run_append_nothing (P:=Tryz.prog) W 65 65 ty 178 c Tryz.underlying65 j none 0 0 (nR _) v eS;exact this
  | some g=>
   have d:=l g rfl;refine⟨_,_,some g,b.drop vs.length,fun ty=>run_append_room_src (P:=Tryz.prog) W 65 65 ty 178 c Tryz.underlying65 j g 0 es.length (es.length+b.length) v _ _ eS (by omega)
    (fun k m=>by rw[cV]at m;rw[d.cell,h,Array.getElem?_eq_getElem (by rw[aGK,lP];omega)];rfl) (fun k m=>d.frozen _),?_,fun g' q=>?_,fun q=>(by cases q),?_,?_⟩
   ·simp[adr];omega
   ·cases q
    refine⟨?_,.inl rfl⟩;have:=IsC.a7 (vs.flatMap cE) (cs:=(es++b).flatMap cE) (es.length*3) d (by rw[cV,cV,lP];omega);rw[wC,aGQ _ _ _ n]at this;rw[h,Nat.zero_add];exact this
   ·simp;omega
   ·exact Frm.a7 (S:=fun k=>some g=some k) _ rfl _ _
 ·have D:(Builtin.firstCells c.size es.length (.slice (adr a) es.length (es.length+b.length))).run Tryz.prog W.drew=.ok (es.flatMap cE).toArray W.drew:=by
   cases a with
   | none=>
    obtain⟨rfl,rfl⟩:=hn rfl;exact run_firstCells_none (P:=Tryz.prog) W.drew c.size 0 0 0
   | some g=>
    have d:=l g rfl;exact run_firstCells_some (P:=Tryz.prog) W.drew c.size es.length ⟨g,0,none⟩ es.length _ (es.flatMap cE) (by rw[cV,h]) (by
     have:=Jsl.cells (w:=W.drew) (g:=g) (o:=0) (xs:=es++b) (es:=es) d.drew (by rw[lP];omega) (by simp)
     rw[Nat.zero_mul]at this;exact this)
  have z:=fun ty=>run_append_grow_src (P:=Tryz.prog) W 65 65 ty 178 c _ Tryz.underlying65 j C (adr a) es.length (es.length+b.length) (es.flatMap cE) D v vs.length (vs.flatMap cE) eS (by omega) (by omega) (by rw[p];exact aOU (by omega) (by omega));have H:=grownCap_ge W (es.length+vs.length) (es.length+b.length) 178;have G:=grownCap_le_maxLen W (es.length+vs.length) (es.length+b.length) 178 (by simp[maxLen];omega);generalize grownCap W (es.length+vs.length) (es.length+b.length) 178=f at *;refine⟨_,_,some W.heap.size,List.replicate (f -(es.length+vs.length)) j0,z,?_,fun g q=>?_,fun q=>(by cases q),?_,?_⟩
  ·simp[adr];omega
  ·cases q
   refine⟨?_,.inr (nR _)⟩;have s:(Value.agg #[.int .i64 0,.int .i64 0,.pointer none]).cells=#[.int .i64 0,.int .i64 0,.pointer none]:=by kernel_rfl
   have:=IsC.new W.drew ((es.flatMap cE++vs.flatMap cE).toArray++Builtin.zeroCells (Value.agg #[.int .i64 0,.int .i64 0,.pointer none]).cells (f -(es.length+vs.length))) 178
   have e:jA (es++vs++List.replicate (f -(es.length+vs.length)) j0)=(es.flatMap cE++vs.flatMap cE).toArray++Builtin.zeroCells (Value.agg #[.int .i64 0,.int .i64 0,.pointer none]).cells (f -(es.length+vs.length)):=by
    rw[s,aOQ];simp[jA]
   rw[e];exact this
  ·simp;omega
  ·exact(Frm.drew _ W).trans (Frm.alloc _ _ _)
def SvS(P m c n b:Nat)(cu0:Int)(x:Option Nat)(jv:Value)(w:World):Prop:=
 w.cell? ⟨P,3,none⟩=some (.map (some m))/\w.cell? ⟨P,4,none⟩=some (.slice (some ⟨c,0,none⟩) n n)/\w.cell? ⟨P,7,none⟩=some jv/\w.cell? ⟨c,b,none⟩=some (.int .i64 cu0)/\
  (Instr.lookup 64 (.map (some m)) (.int .i64 b) false).run Tryz.prog w=.ok (eV x) w
theorem aBN(w:World):Calls Tryz.prog 116 #[.pointer none] w fun e w'=>e=.returned (.pointer none)/\w'=w:=by
 go_enter Tryz.func116,Tryz.ntmps116
 go_wp2
 go_ret
 exact⟨rfl,rfl⟩
structure aMY(w w':World)(x x':Option Nat)(d:Nd):Prop where
 below:Bl w w'
 none:x=none->x'=none
 some:∀q,x=some q->∃q' a' j',x'=some q'/\w.heap.size<=q'/\(∀g,a'=some g->w.heap.size<=g)/\aM w' q' d a' j'
theorem yX(x:Option Nat)(d:Nd)(w:World)(hx:∀q,x=some q->∃a junk,aM w q d a junk)(f:d.2.length<=10):
  Calls Tryz.prog 116 #[eV x] w fun e w'=>∃x',e=.returned (eV x')/\aMY w w' x x' d:=by
 cases x with
 | none=>
  refine(aBN w).mono ?_;rintro e w' ⟨rfl,rfl⟩;exact⟨none,rfl,bQ _ _,fun _=>rfl,fun q e=>by cases e⟩
 | some q=>
  obtain⟨a,junk,h⟩:=hx q rfl;refine(mQ q d a junk w h f).mono ?_;rintro e w' ⟨u,rfl,⟨b,c,l,rfl,g,i,j⟩,k⟩;exact⟨some b,rfl,k,fun e=>(by cases e),fun m e=>⟨b,c,l,rfl,g,i,j⟩⟩
theorem aLB(W:World)(x y:Int)(p:Option Addr):(Instr.build 178 #[(0,.int .i64 x),(1,.int .i64 y),(2,.pointer p)]).run Tryz.prog W=.ok (.agg #[.int .i64 x,.int .i64 y,.pointer p]) W:=by kernel_rfl
theorem aMH(W:World)(x y:Int)(p:Option Addr):(Instr.buildSlice 65 1 #[(0,.agg #[.int .i64 x,.int .i64 y,.pointer p])]).run Tryz.prog W=.ok (.slice (some ⟨W.heap.size,0,none⟩) 1 1) (W.alloc (.cells #[.int .i64 x,.int .i64 y,.pointer p] 178)):=by kernel_rfl
theorem kM{P:Program}{o:Oper}{a:Act}{K:Act->World->Prop}{Q:Exit->Act->World->Prop}(s x:Operand)(t b:TypeId)
  (e:o.op=.call {callee:=.builtin .append,args:=#[s,x],argTypes:=#[t,b]}) (vs d:Value) (f:a.eval s=vs) (hx:a.eval x=d)
  (c:Value) (w':World) (hr:(Builtin.append_ #[t,b] o.type #[vs,d]).run P w=.ok c w') (h:K (a.put o.dst c) w'):Oper.wp P o a w K Q:=by
 unfold Oper.wp execOp;simp only[e,resolve,invoke,builtin,Sem.run_bind,Sem.run_pure,Result.andThen_ok,List.map_toArray,List.map_cons,List.map_nil,f,hx,hr];exact h
theorem aJY(P m c n b:Nat)(rs cm tv:Value)(nx gn:Int)(r:List Int)(φ:Nat->Option Nat)(l:Option Nat)(f s:List JE)(w:World)
  (N:IsC w P #[rs,.int .i64 nx,.int .i64 gn,.map (some m),.slice (some ⟨c,0,none⟩) n n,cm,tv,.slice (adr l) f.length (f.length+s.length)] 67) (hc:IsC w c (dI r) 2) (hn:r.length=n) (hb:b<n) (CM:n<=512) (Q:dU w m φ)
  (d:Nd) (hx:∀q,φ b=some q->∃a junk,aM w q d a junk) (gd:d.2.length<=10) (D:∀g,l=some g->IsC w g (jA (f++s)) 178/\g≠P/\g≠m/\g≠c) (SI:l=none->f=[]/\s=[]) (YD:f.length+s.length<=maxLen) (sc:f.length<=900000):
  Calls Tryz.prog 114 #[.pointer (some ⟨P,0,none⟩),.int .i64 b] w fun e w'=>e=.returned (.tuple #[])/\∃x' ja' jj',IsC w' P #[rs,.int .i64 nx,.int .i64 gn,.map (some m),.slice (some ⟨c,0,none⟩) n n,cm,tv,.slice (adr ja') (f.length+1) (f.length+1+jj'.length)] 67/\
   (∀g,ja'=some g->IsC w' g (jA (f++[((b:Int),r.getD b 0,x')]++jj')) 178/\(l=some g\/w.heap.size<=g))/\ja'≠none/\f.length+1+jj'.length<=maxLen/\(∃w1,aMY w w1 (φ b) x' d/\Frm (fun k=>k=P\/l=some k) w1 w')/\Frm (fun k=>k=P\/l=some k) w w':=by
 have S:(dI r)[b]?=some (.int .i64 (r.getD b 0)):=by
  simp[dI,gD,show b<r.length by omega]
 have g8:=Q.lookup b (by omega);have J:∀W:World,W.heap[m]?=w.heap[m]?->(Instr.lookup 64 (.map (some m)) (.int .i64 b) false).run Tryz.prog W=.ok (eV (φ b)) W:=fun W C=>(Q.of C).lookup b (by omega);generalize r.getD b 0=i at *;generalize φ b=x at *;have V:=N.lt;have av:=hc.lt;have U:=Q.lt;have O:∀W:World,(∀k,k<w.heap.size->W.heap[k]?=w.heap[k]?)->SvS P m c n b i x (.slice (adr l) f.length (f.length+s.length)) W:=fun W C=>by
  have v:IsC W P _ _:=N.of (C P V);have L:IsC W c _ _:=hc.of (C c av);exact⟨v.c rfl,v.c rfl,v.c rfl,by rw[L.cell];exact S,J W (C m U)⟩
 have H:Hid (∀W:World,(∀k,k<w.heap.size->W.heap[k]?=w.heap[k]?)->SvS P m c n b i x (.slice (adr l) f.length (f.length+s.length)) W):=O;have p:SvS P m c n b i x (.slice (adr l) f.length (f.length+s.length)) w.drew:=O w.drew (fun _ _=>rfl);have Cq:(b:Int) <(n:Int):=by omega
 have sv:b<n:=hb;have HC:Hid (r.length=n):=hn;have HB:Hid ((dI r)[b]?=some (.int .i64 i)):=S;have HM:Hid (∀W:World,W.heap[m]?=w.heap[m]?->(Instr.lookup 64 (.map (some m)) (.int .i64 b) false).run Tryz.prog W=.ok (eV x) W):=J;have H0:=aLB;have lq:=aMH;clear O g8 J S hn;go_enter Tryz.func114,Tryz.ntmps114;refine bA (SvS P m c n b i x (.slice (adr l) f.length (f.length+s.length))) 25 (by kernel_rfl) ?_;refine tJ 0 4 (.pointer (some ⟨P,0,none⟩)) rfl p ?_;refine tJ 1 5 (.pointer (some ⟨P,0,none⟩)) rfl p ?_;refine tJ 2 6 (.pointer (some ⟨P,0,none⟩)) rfl p ?_;refine tJ 3 7 (.pointer (some ⟨P,7,none⟩)) rfl p ?_;refine tJ 4 8 (.slice (adr l) f.length (f.length+s.length)) rfl p ?_;refine tJ 5 9 (.int .i64 b) rfl p ?_;refine tJ 6 10 (.pointer (some ⟨P,0,none⟩)) rfl p ?_;refine tJ 7 11 (.pointer (some ⟨P,0,none⟩)) rfl p ?_;refine tJ 8 12 (.pointer (some ⟨P,4,none⟩)) rfl p ?_;refine tJ 9 13 (.slice (some ⟨c,0,none⟩) n n) rfl p ?_;refine tJ 10 14 (.int .i64 b) rfl p ?_;refine tJ 11 15 (.pointer (some ⟨c,b,none⟩)) rfl p ?_;refine tJ 12 16 (.int .i64 i) rfl p ?_;refine tJ 13 17 (.pointer (some ⟨P,0,none⟩)) rfl p ?_;refine tJ 14 18 (.pointer (some ⟨P,0,none⟩)) rfl p ?_;refine tJ 15 19 (.pointer (some ⟨P,3,none⟩)) rfl p ?_;refine tJ 16 20 (.map (some m)) rfl p ?_;refine tJ 17 21 (.int .i64 b) rfl p ?_;refine tJ 18 22 (eV x) rfl p ?_;simp only[Act.put,sB,sZ,sS];refine oE 19 rfl fun K2 o=>?_;go_simp;refine(yX x d _ (fun q e=>by obtain⟨a,j,h⟩:=hx q e;exact⟨a,j,h.below (bQ _ _).drew⟩) gd).mono ?_;rintro e w1 ⟨x',rfl,F⟩;have B:Bl w w1:=(bQ w.heap.size w).drew.trans F.below;refine o _ _ (fun _=>H.out w1 fun k y=>B.block k y) ?_;clear o K2 p;have uy:=H.out w1 fun k y=>B.block k y;have Qc:aMY w w1 x x' d:=⟨B,F.none,F.some⟩;clear F;obtain⟨R,X⟩:∃R,eV x'=.pointer R:=⟨_,rfl⟩;rw[X];refine oE 20 rfl fun K2 o=>?_;go_simp;refine o _ _ (fun _=>uy) ?_;clear o K2;refine oE 21 rfl fun K2 o=>?_;go_simp;obtain⟨Y,I⟩:=exH (w1.heap.size);obtain⟨G,E⟩:=exH (w1.alloc (.cells #[.int .i64 b,.int .i64 i,.pointer R] 178));rw[<-E.out,<-I.out];have ts:IsC G Y (jA [((b:Int),i,x')]) 178:=by rw[E.out,I.out,<-X];exact IsC.new _ _ _
 have di:Bl w1 G:=by rw[E.out];exact(bQ w1.heap.size w1).alloc (nR _) _
 have z:=B.trans (di.mono B.size);have hY:w.heap.size<=Y:=by rw[I.out];exact B.size
 clear E;have iw:=H.out G fun k y=>z.block k y;refine o _ _ (fun _=>iw) ?_;clear o K2 uy;obtain⟨u,t,ja',jj',hr,hu,v,L,h3,M⟩:=aHN l f s [((b:Int),i,x')] (.slice (some ⟨Y,0,none⟩) 1 1) G (fun g e=>(D g e).1.of (z.block g (D g e).1.lt)) SI (.inr ⟨Y,0,1,[((b:Int),i,x')],by simp,ts,by simp,by simp⟩) (by simp;omega) YD;simp only[List.length_cons,List.length_nil,Nat.zero_add]at hu v h3;refine oE 22 rfl fun K2 o=>?_;refine kM (.tmp 8) (.tmp 25) _ _ (by rfl) (.slice (adr l) f.length (f.length+s.length)) (.slice (some ⟨Y,0,none⟩) 1 1) (by rfl) (by rfl) u t (hr _) ?_;have K:∀k,k<w.heap.size->l≠some k->t.heap[k]?=w.heap[k]?:=fun k y hn=>by
  rw[M.block k (lL y z.size) hn,z.block k y]
 have Z:l≠some P:=fun e=>(D P e).2.1 rfl;have SH:l≠some m:=fun e=>(D m e).2.2.1 rfl;have YC:l≠some c:=fun e=>(D c e).2.2.2 rfl;have A:IsC t P _ _:=N.of (K P V Z);have Lm:IsC t c _ _:=hc.of (K c av YC);have YN:=HM.out t (K m U SH);have T:SvS P m c n b i x (.slice (adr l) f.length (f.length+s.length)) t:=⟨A.c rfl,A.c rfl,A.c rfl,by rw[Lm.cell];exact HB.out,YN⟩;refine o _ _ (fun _=>T) ?_;clear o K2 iw;subst hu;simp only[Act.put,sB,sZ,sS];have H9:=A.frozen 7;have ZX:t.cell? ⟨P,7,none⟩=some (.slice (adr l) f.length (f.length+s.length)):=A.c rfl;refine oE 23 rfl fun K2 o=>?_;go_simp;refine o _ _ (fun _=>T) ?_;clear o K2;refine oE 24 rfl fun K2 o=>?_;go_simp;refine o _ _ (fun _=>T) ?_;clear o K2;refine oE 25 rfl fun K2 o=>?_;go_simp;refine o _ _ (fun q=>absurd rfl q) ?_;clear o K2;refine aS (by kernel_rfl) ?_ _;go_wp2;go_end0;have aw:ja'≠none:=fun e=>by have:=(L e).2.1;simp at this
 have bp:=A.set 7 (.slice (adr ja') (f.length+1) (f.length+1+jj'.length));have br:Frm (fun k=>k=P\/l=some k) w t:=(Frm.aa z).next M fun x _ h=>.inr h;have Qe:Frm (fun k=>k=P\/l=some k) w1 t:=(Frm.aa di).next M fun x _ h=>.inr h;have SF:∀g,ja'=some g->g≠P:=fun g e e'=>by
  subst e';rcases(v g e).2 with h | h
  ·exact Z h
  ·have:=z.size;omega
 refine⟨rfl,x',ja',jj',bp,fun g e=>⟨((v g e).1).set_ne _ (SF g e),?_⟩,aw,h3,⟨w1,Qc,Qe.put _ _ fun _=>.inl rfl⟩,br.put _ _ fun _=>.inl rfl⟩;rcases(v g e).2 with h | h
 ·exact .inl h
 ·exact .inr (lT z.size h)
