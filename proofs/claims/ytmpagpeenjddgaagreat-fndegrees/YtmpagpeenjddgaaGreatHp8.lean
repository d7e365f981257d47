import Derived.Maps.OwnSet
import Derived.Maps.Views
import Derived.Test.YtmpagpeenjddgaaGreatHp1
set_option maxHeartbeats 9999999
set_option maxRecDepth 99999
set_option linter.all false
namespace Go.Proofs.YtmpagpeenjddgaaGreat
open Go.RowKit Fo
variable{key:ByteArray}{es junk rs:List E3}{g i m q:Nat}{φ:Nat->Option Nat}{S:Nat->Prop}{d:Nd}{a:Option Nat}{v:Value}{b w w':World}
structure aHH(w w':World)(u:Value)(d:Nd):Prop where
 ex:∃q a junk,u=pT q 0/\w.heap.size<=q/\(∀g,a=some g->w.heap.size<=g)/\aN w' q d a junk
 below:Bl w w'
theorem aN.dp(h:aN w q d a junk):Esl w (.slice (adr a) d.2.length (d.2.length+junk.length)) d.2:=by
 cases a with
 | none=>obtain⟨b,c⟩:=h.nil rfl;rw[b,c];exact .inl ⟨rfl,rfl⟩
 | some g=>exact .inr ⟨g,0,d.2.length+junk.length,d.2++junk,by simp[adr],(h.arr g rfl).1,by simp,by simp⟩
theorem aN.ae(h:aN w q d a junk)(k:Frm S w w')(c:¬S q)(b:∀g,a=some g->¬S g):aN w' q d a junk:=
 ⟨h.box.ae k c,fun g e=>⟨(h.arr g e).1.ae k (b g e),(h.arr g e).2⟩,h.nil,h.small⟩
theorem aN.below(h:aN w q d a junk)(k:Bl w w'):aN w' q d a junk:=h.ae (S:=fun _=>False) (Frm.aa k) (fun q=>q) (fun _ _ q=>q)
theorem aHH.box{w1:World}{a':Option Nat}{junk':List E3}(k:Int)(b:∀g,a'=some g->w.heap.size<=g/\IsC w1 g (cC (es++junk')) 130)(hn:a'=none->es=[]/\junk'=[])(c:es.length+junk'.length<=maxLen)(a:Bl w w1):
  aHH w (w1.alloc (.cells #[iV k,.slice (adr a') es.length (es.length+junk'.length)] 96)) (pT w1.heap.size 0) (k,es):=
 ⟨⟨w1.heap.size,a',junk',rfl,a.size,fun g e=>(b g e).1,⟨IsC.new _ _ _,fun g e=>⟨(b g e).2.alloc _,Nat.ne_of_lt (b g e).2.lt⟩,hn,c⟩⟩,a.alloc a.size _⟩
theorem gW(W:World)(k:Int)(b:Option Addr)(n c:Nat):(Instr.build 96 #[(0,iV k),(1,.slice b n c)]).run Tryz.prog W=.ok (.agg #[iV k,.slice b n c]) W:=by kernel_rfl
theorem aOZ(W:World)(k:Int)(b:Option Addr)(n c:Nat):(Instr.box 96 (.agg #[iV k,.slice b n c])).run Tryz.prog W=.ok (pT W.heap.size 0) (W.alloc (.cells #[iV k,.slice b n c] 96)):=by kernel_rfl
theorem mQ(q:Nat)(d:Nd)(a:Option Nat)(b:List E3)(w:World)(h:aN w q d a b)(j:d.2.length<=10):
  Calls Tryz.prog 116 #[pT q 0] w fun e w'=>∃u,e=.returned u/\aHH w w' u d:=by
 obtain⟨k,es⟩:=d;have v:w.cell? (aD q 0)=some (iV k):=by rw[h.box.cell];rfl
 have x:w.cell? (aD q 1)=some (.slice (adr a) es.length (es.length+b.length)):=by rw[h.box.cell];rfl
 have i:=fun W=>pG (.slice (adr a) es.length (es.length+b.length)) es W;have l:=h.dp;have r:=gW;have t:=aOZ;clear i;go_enter Tryz.func116,Tryz.ntmps116;go_wp2_with fail;go_region_law (go_simp;go_at_call 135;refine(pG _ es _ (by exact l) j).mono ?_;rintro e w1 ⟨z,rfl,m⟩;obtain⟨⟨s,c,rfl,n,g,o⟩,p⟩:=m;have f:Bl w w1:=(bQ w.heap.size w).drew.trans p;have y:w1.cell? (aD q 0)=some (iV k):=(by rw[(h.below f).box.cell];rfl))
 all_goals go_wp2
 all_goals go_ret
 all_goals exact⟨_,rfl,aHH.box k n g o f⟩
theorem Frm.next{T:Nat->Prop}{a c:World}(h:Frm S a b)(k:Frm T b c)(f:∀x,x<a.heap.size->T x->S x):Frm S a c:=
 ⟨k.os.trans h.os,k.tape.trans h.tape,k.output.trans h.output,lT h.size k.size,fun i d e=>(k.block i (lL d h.size) (fun q=>e (f i d q))).trans (h.block i d e)⟩
theorem Frm.put{a:World}(h:Frm S a b)(p:Addr)(v:Value)(d:p.block<a.heap.size->S p.block):Frm S a (b.setCell p v):=
 h.next (T:=fun x=>x=p.block) (Frm.set (S:=fun x=>x=p.block) b rfl v) (fun x c e=>by rw[e]at c |-;exact d c)
def aBG(e:E3):Value:=.agg #[.string e.1,.string e.2.1,iV e.2.2]
theorem aN.some(h:aN w q d a junk)(b:0<d.2.length):∃g,a=some g/\IsC w g (cC (d.2++junk)) 130/\g≠q:=by
 cases a with
 | none=>obtain⟨c,_⟩:=h.nil rfl;rw[c]at b;simp at b
 | some g=>exact⟨g,rfl,h.arr g rfl⟩
theorem bM{xs:List E3}(h:IsC w g (cC xs) 130)(a:i<xs.length):w.cell? (aD g (i*3))=some (.string (xs.getD i e0).1)/\w.cell? (aD g (i*3+1))=some (.string (xs.getD i e0).2.1)/\w.cell? (aD g (i*3+2))=some (iV (xs.getD i e0).2.2):=by
 rw[h.cell,h.cell,h.cell];exact aKC xs a
theorem gT(q g:Nat)(k:Int)(es a:List E3)(i:Nat)(w:World)(h:aN w q (k,es) (some g) a)(F:es.length<=10)(s:i<es.length):
  Calls Tryz.prog 106 #[pT q 0,iV i] w fun e w'=>e=.returned (aBG (es.getD i e0))/\(∃junk',aN w' q (k,delE es i) (some g) junk')/\Frm (fun x=>x=q\/x=g) w w':=by
 obtain⟨m,n⟩:=h.arr g rfl;simp only at m;have t:=h.small;simp only at t;have U:es.length+a.length<=9223372036854775807:=by simp[maxLen]at t;omega
 have Q:w.cell? (aD q 1)=some (sL g 0 es.length (es.length+a.length)):=by rw[h.box.cell];rfl
 have N:=h.box.lt;have V:=m.lt;obtain⟨y,z,A⟩:=bM m (i:=i) (by rw[lP];omega);have D:(es++a).getD i e0=es.getD i e0:=by rw[dC,if_pos s]
 rw[D]at y z A;generalize es.getD i e0=E at *;obtain⟨f,j,d⟩:=E;simp only at y z A;go_enter Tryz.func106,Tryz.ntmps106;go_wp2_with fail;rw[show((i:Int)+1)=((i+1:Nat):Int) by omega];refine(rV g es a i (i+1) _ ((m.alloc _).alloc _) (by omega) (by omega) F t).mono ?_;rintro e b ⟨rfl,u,hF⟩;have o:IsC b q _ 96:=((h.box.alloc _).alloc _).ae hF (fun e=>n e.symm);have r0:=(IsC.new w #[.string {data:=#[]},.string {data:=#[]},iV 0] 130).alloc (.cells #[.string f,.string j,iV d] 130);have r1:=IsC.new (w.alloc (.cells #[.string {data:=#[]},.string {data:=#[]},iV 0] 130)) #[.string f,.string j,iV d] 130;rw[World.size_alloc]at r1;have r0:=r0.ae hF (by omega);have r1:=r1.ae hF (by omega);have O:b.cell? (aD q 1)=some (sL g 0 es.length (es.length+a.length)):=o.c rfl;have P:=o.frozen 1;have W:b.cell? (aD (w.heap.size+1) 0)=some (.string f):=r1.c rfl;have X:b.cell? (aD (w.heap.size+1) 1)=some (.string j):=r1.c rfl;have Y:b.cell? (aD (w.heap.size+1) 2)=some (iV d):=r1.c rfl;have K:b.cell? (aD w.heap.size 0)=some (.string {data:=#[]}):=r0.c rfl;have L:b.cell? (aD w.heap.size 1)=some (.string {data:=#[]}):=r0.c rfl;have M:b.cell? (aD w.heap.size 2)=some (iV 0):=r0.c rfl;have R:=r0.frozen 0;have S:=r0.frozen 1;have T:=r0.frozen 2;have H:¬w.heap.size=q:=by omega
 have I:¬w.heap.size+1=q:=by omega
 have c:¬q=w.heap.size:=by omega
 have J:¬q=w.heap.size+1:=by omega
 go_wp2
 refine bodyPost_ret (v:=aBG (f,j,d)) ?_ rfl ?_
 ·simp[results,Tryz.f106,go_sem,aBG,K,L,M]
 ·refine⟨rfl,⟨[e0]++a,?_,fun g' e=>?_,fun e=>(by cases e),?_⟩,?_⟩
  ·have:=(((o.set 1 (sL g 0 (es.length-1) (es.length+a.length))).set_ne (p:=aD w.heap.size 0) (.string f) c).set_ne (p:=aD w.heap.size 1) (.string j) c).set_ne (p:=aD w.heap.size 2) (iV d) c
   have r:(delE es i).length=es.length-1:=bU es i s;simp only[adr,Option.map_some,r];have B:es.length-1+([e0]++a).length=es.length+a.length:=by simp;omega
   rw[B];exact this
  ·cases e
   refine⟨?_,n⟩;have C:es.take i++es.drop (i+1)++(List.replicate (i+1-i) e0++a)=delE es i++([e0]++a):=by
    rw[show i+1-i=1 by omega];rfl
   rw[C]at u;exact(((u.set_ne (p:=aD q 1) _ n).set_ne (p:=aD w.heap.size 0) (.string f) (by simp;omega)).set_ne (p:=aD w.heap.size 1) (.string j) (by simp;omega)).set_ne (p:=aD w.heap.size 2) (iV d) (by simp;omega)
  ·have r:(delE es i).length=es.length-1:=bU es i s
   simp only[r];simp;omega
  ·have G:Frm (fun x=>x=q\/x=g) w b:=((Frm.alloc _ w _).next (Frm.alloc (fun _=>False) _ _) (fun _ _ q=>q.elim)).next hF (fun x _ e=>.inr e)
   exact(((G.put ⟨q,1,none⟩ _ (fun _=>.inl rfl)).put ⟨w.heap.size,0,none⟩ _ (fun l=>by simp at l)).put ⟨w.heap.size,1,none⟩ _ (fun l=>by simp at l)).put ⟨w.heap.size,2,none⟩ _ (fun l=>by simp at l)
theorem aGW{W w3:World}{q1:Nat}{k:Int}{j1:List E3}{a1:Option Nat}(h:aN w q (k,es) (some g) junk)(a:g≠q)(d:Bl w W)(u:m<=es.length)(s:w.heap.size<=q1)(b:∀x,a1=some x->w.heap.size<=x)(j:aN W q1 (k,es.drop m) a1 j1)(hF:Frm (fun x=>x=g) W w3)
  (f:IsC w3 g (cC (es.take m++es.drop es.length++(List.replicate (es.length-m) e0++junk))) 130) (v:es.length+junk.length<=maxLen):
  ∃q' a' j' junk',Ending.returned (pT q1 0)=.returned (pT q' 0)/\w.heap.size<=q'/\(∀x,a'=some x->w.heap.size<=x)/\aN (w3.setCell (aD q 1) (sL g 0 (es.length -(es.length-m)) (es.length+junk.length))) q' (k,es.drop m) a' j'/\aN (w3.setCell (aD q 1) (sL g 0 (es.length -(es.length-m)) (es.length+junk.length))) q (k,es.take m) (some g) junk'/\Frm (fun x=>x=q\/x=g) w (w3.setCell (aD q 1) (sL g 0 (es.length -(es.length-m)) (es.length+junk.length))):=by
 have t:=h.box.lt;have y:=(h.arr g rfl).1.lt;have r:=h.below d;have i:Frm (fun x=>x=q) w3 (w3.setCell (aD q 1) (sL g 0 (es.length -(es.length-m)) (es.length+junk.length))):=Frm.set (S:=fun x=>x=q) w3 rfl _;have c:(es.take m).length=m:=by rw[List.length_take];omega
 refine⟨q1,a1,j1,List.replicate (es.length-m) e0++junk,rfl,s,b,(j.ae hF (by omega) (fun x e=>by have:=b x e;omega)).ae i (by omega) (fun x e=>by have:=b x e;omega),⟨?_,fun x e=>?_,fun e=>(by cases e),?_⟩,?_⟩
 ·have:=(r.box.ae hF (Ne.symm a)).set 1 (sL g 0 (es.length -(es.length-m)) (es.length+junk.length))
  simp only[adr,Option.map_some,c];have l:m+(List.replicate (es.length-m) e0++junk).length=es.length+junk.length:=by simp;omega
  rw[l];have n:es.length -(es.length-m)=m:=by omega
  rw[n]at this |-;exact this
 ·cases e
  refine⟨?_,a⟩;have o:es.drop es.length=[]:=List.drop_of_length_le (nR _);rw[o,List.append_nil]at f;exact f.set_ne (p:=aD q 1) _ a
 ·simp only[c];simp;omega
 ·exact((Frm.aa d).next hF (fun x _ e=>.inr e)).next i (fun x _ e=>.inl e)
theorem oW(q g:Nat)(k:Int)(es a:List E3)(w:World)(h:aN w q (k,es) (some g) a)(I:es.length<=10)(h3:2<es.length):
  Calls Tryz.prog 118 #[pT q 0] w fun e w'=>∃q' a' j' junk',e=.returned (pT q' 0)/\w.heap.size<=q'/\(∀x,a'=some x->w.heap.size<=x)/\aN w' q' (k,es.drop (es.length-2)) a' j'/\aN w' q (k,es.take (es.length-2)) (some g) junk'/\Frm (fun x=>x=q\/x=g) w w':=by
 obtain⟨n,i⟩:=h.arr g rfl;simp only at n;have f:=h.small;simp only at f;have Y:es.length+a.length<=9223372036854775807:=by simp[maxLen]at f;omega
 have F:w.cell? (aD q 0)=some (iV k):=by rw[h.box.cell];rfl
 have G:w.cell? (aD q 1)=some (sL g 0 es.length (es.length+a.length)):=by rw[h.box.cell];rfl
 have P:=h.box.lt;have vm:=n.lt;obtain⟨m,l⟩:∃m,m=es.length-2:=⟨_,rfl⟩;rw[<-l];have b:(es.drop m).length=es.length-m:=List.length_drop;have v:∀W,IsC W g (cC (es++a)) 130->Esl W (sL g (m*3) (es.length-m) (es.length+a.length-m)) (es.drop m):=fun W d=>.inr ⟨g,m,es.length+a.length-m,es++a,by rw[b],d,by rw[b,lP];omega,by rw[b,List.drop_append_of_le_length (by omega),List.take_append_of_le_length (by rw[b];exact nR _),List.take_of_length_le (by rw[b];exact nR _)]⟩;have B:=v w n;have D:(es.drop m).length<=10:=by omega
 have T:(es.length:Int)-2=(m:Int):=by omega
 have U:IntKind.i64.wrap (m:Int)=(m:Int):=by rw[IntKind.wrap_i64];omega
 have n1:¬es.length+a.length=m:=by omega
 have n2:(m:Int)<=(es.length:Int):=by omega
 have M:m<=es.length:=by omega
 have N:m<es.length:=by omega
 have Q:Hid (m=es.length-2):=l;have E:Hid ((es.drop m).length=es.length-m):=b;clear l b v;have S:=gW;have X:=aOZ;go_enter Tryz.func118,Tryz.ntmps118;go_wp2_with fail;go_region_law (go_simp;go_at_call 135;refine(pG _ (es.drop m) _ (by exact B) D).mono ?_;rintro e w1 ⟨v',rfl,K⟩;obtain⟨⟨a',junk',rfl,y,p,r⟩,A⟩:=K;have u:Bl w w1:=(bQ w.heap.size w).drew.trans A;have H:w1.cell? (aD q 0)=some (iV k):=(by rw[(h.below u).box.cell];rfl))
 all_goals go_wp2_with fail
 all_goals
  have j:=aHH.box (w:=w) k y p r u;rw[E.out]at j;generalize d:(w1.alloc (.cells #[iV k,.slice (adr a') (es.length-m) (es.length-m+junk'.length)] 96))=W at j |-;have R:Hid (w1.heap.size+1=W.heap.size):=by rw[<-d];exact(World.size_alloc _ _).symm
  clear d;obtain⟨⟨q1,V,Z,z,L,O,C⟩,t⟩:=j;simp only[Value.pointer.injEq,sJ,Addr.mk.injEq,and_true]at z;subst z;have c:=h.below t;have u1:W.cell? (aD q 1)=some (sL g 0 es.length (es.length+a.length)):=by rw[c.box.cell];rfl
  have s:=(c.arr g rfl).1;simp only at s;clear y p r H A F G
 all_goals go_region_law (go_simp;go_at_call 127;refine(rV g es a m es.length _ (by exact s) N (nR _) I f).mono ?_;rintro e o ⟨rfl,J,hF⟩;have v1:o.cell? (aD q 1)=some (sL g 0 es.length (es.length+a.length)):=(by rw[(c.box.ae (w':=o) ⟨hF.os,hF.tape,hF.output,hF.size,hF.block⟩ (fun e=>i e.symm)).cell];rfl);have v2:=(c.box.ae (w':=o) ⟨hF.os,hF.tape,hF.output,hF.size,hF.block⟩ (fun e=>i e.symm)).frozen 1)
 all_goals go_wp2
 all_goals go_ret
 all_goals exact aGW h i t M L O C ⟨hF.os,hF.tape,hF.output,hF.size,hF.block⟩ J f
def nN(x y:ByteArray):Int:=if kl x y=true then -1 else if kl y x=true then 1 else 0
theorem sP(x:ByteArray)(w:World):Calls Tryz.prog 136 #[.string x] w fun e w'=>e=.returned (.bool false)/\w=w':=by
 have h:(x.toList != x.toList)=false:=by simp
 go_enter Tryz.func136,Tryz.ntmps136
 go_wp2
 go_ret
 exact⟨by simp,rfl⟩
theorem wP(x y:ByteArray)(w:World):Calls Tryz.prog 121 #[.string x,.string y] w fun e w'=>e=.returned (iV (nN x y))/\w=w':=by
 have f:Hid (nN x y=if kl x y=true then -1 else if kl y x=true then 1 else 0):=rfl;go_enter Tryz.func121,Tryz.ntmps121;go_wp2_with fail;refine(sP _ _).mono ?_;rintro e w1 ⟨rfl,rfl⟩;go_wp2_with fail;refine(sP _ _).mono ?_;rintro e w1 ⟨rfl,rfl⟩;by_cases c:Op.bytesLess x.toList y.toList=true
 ·have b:Hid (nN x y=-1):=by rw[f.out,if_pos (show kl x y=true from c)];rfl
  go_wp2
  go_ret
  exact⟨by rw[b.out];rfl,rfl⟩
 ·have h:Op.bytesLess x.toList y.toList=false:=by simpa using c
  have d:¬kl x y=true:=c;by_cases a:x.toList=y.toList
  ·have g:(x.toList == y.toList)=true:=by simp[a]
   have b:Hid (nN x y=0):=by
    have:=gV a
    subst this;rw[f.out,eI];rfl
   clear c a d;go_wp2;go_ret;exact⟨by rw[b.out];rfl,rfl⟩
  ·have g:(x.toList == y.toList)=false:=by simp[a]
   have b:Hid (nN x y=1):=by
    rcases lF (Bool.eq_false_iff.2 d)with q | q
    ·exact absurd (by rw[q]) a
    ·rw[f.out,if_neg d,if_pos q];rfl
   clear c a d;go_wp2;go_ret;exact⟨by rw[b.out];rfl,rfl⟩
theorem xV(x y:ByteArray)(z:Int)(w:World):Calls Tryz.prog 177 #[.agg #[.string x,.string y,iV z]] w fun e w'=>e=.returned (.string x)/\Bl w w':=by
 have a:=(bQ w.heap.size w).alloc (nR _) (.cells #[.string x,.string y,iV z] 130);go_enter Tryz.func177,Tryz.ntmps177;go_wp2;go_ret;exact⟨rfl,a⟩
theorem tC(v:Value)(w:World):(Go.method 335 130 v "loop.example/s01595/impl.sortKey").run Tryz.prog w=.ok (177,v) w:=by kernel_rfl
theorem oQ(x y:ByteArray)(z:Int)(k:ByteArray)(w:World):Calls Tryz.prog 120 #[.agg #[.string x,.string y,iV z],.string k] w fun e w'=>e=.returned (iV (nN x k))/\Bl w w':=by
 have b:=(bQ w.heap.size w).alloc (nR _) (.cells #[.string x,.string y,iV z] 130);have d:=tC;go_enter Tryz.func120,Tryz.ntmps120;go_wp2_with fail;refine(xV x y z _).mono ?_;rintro e w1 ⟨rfl,a⟩;have c:=b.trans (a.mono b.size);clear a;go_wp2_with fail;refine(wP _ _ _).mono ?_;rintro e f ⟨rfl,rfl⟩;go_wp2;go_ret;exact⟨rfl,c⟩
def NRd(w:World)(v:Value)(es:List E3):Prop:=
 ∃a cap,v=.slice a es.length cap/\(0<es.length->∃b off,a=some ⟨b,off,none⟩/\∀i,i<es.length->w.cell? (aD b (off+i*3))=some (.string (es.getD i e0).1)/\w.cell? (aD b (off+i*3+1))=some (.string (es.getD i e0).2.1)/\w.cell? (aD b (off+i*3+2))=some (iV (es.getD i e0).2.2))
theorem Esl.ep(h:Esl w v es):NRd w v es:=by
 rcases h with⟨rfl,rfl⟩ | ⟨g,o,a,xs,rfl,m,l,f⟩
 ·exact⟨none,0,rfl,fun q=>by simp at q⟩
 ·refine⟨_,a,rfl,fun _=>⟨g,o*3,rfl,fun i k=>?_⟩⟩
  have b:=Esl.cells m l f;have n:∀j,(⟨g,o*3,none⟩:Addr).add j=⟨g,o*3+j,none⟩:=fun j=>by unfold Addr.add;split<;>simp_all
  obtain⟨r1,r2,r3⟩:=kY es k;have c:=b _ _ r1;have d:=b _ _ r2;have e:=b _ _ r3;rw[n]at c d e;exact⟨c,d,e⟩
theorem aFD{x y:ByteArray}:(nN x y == 0)=(x.toList == y.toList):=by
 unfold nN;by_cases a:kl x y=true
 ·rw[if_pos a]
  have:x.toList≠y.toList:=fun e=>by have:=gV e;subst this;rw[eI]at a;cases a
  simp[this]
 ·rw[if_neg a]
  rcases lF (Bool.eq_false_iff.2 a)with rfl | b
  ·rw[eI];simp
  ·rw[if_pos b]
   have:x.toList≠y.toList:=fun e=>by have:=gV e;subst this;rw[eI]at b;cases b
   simp[this]
def kK(rs:List E3)(key:ByteArray)(e:Ending):Prop:=e=.returned (.tuple #[iV (cLt rs key),.bool (fM rs key)])
theorem aEK(c:Srt rs)(h1:i<=rs.length)(h2:∀a,a<i->kl (rs.getD a e0).1 key=true)(h3:∀a,i<=a->a<rs.length->kl (rs.getD a e0).1 key=false):cLt rs key=i:=by
 have d:=kT rs key;refine Nat.le_antisymm (Nat.le_of_not_lt fun b=>?_) (Nat.le_of_not_lt fun b=>?_)
 ·have:=(gZ c key (j:=i) (by omega)).2 b
  rw[show ky rs i=(rs.getD i e0).1 from rfl,h3 i (nR _) (by omega)]at this;cases this
 ·have:=(gZ c key (j:=cLt rs key) (by omega)).1 (h2 _ b);omega
theorem kK.yes(b:Srt rs)(h1:i<rs.length)(h2:∀a,a<i->kl (rs.getD a e0).1 key=true)(h3:∀a,i<=a->a<rs.length->kl (rs.getD a e0).1 key=false){cv:Int}(hc:nN (rs.getD i e0).1 key=cv):kK rs key (.returned (.tuple #[iV i,.bool (cv == 0)])):=by
 have e:=aEK b (by omega) h2 h3;unfold kK fM;rw[e,<-hc,aFD];simp[h1,ky]
theorem kK.no(b:Srt rs)(h2:∀a,a<rs.length->kl (rs.getD a e0).1 key=true):kK rs key (.returned (.tuple #[iV rs.length,.bool false])):=by
 have e:=aEK b (nR _) h2 (fun a c h2=>by omega);unfold kK fM;rw[e];simp
theorem aAK(v:Value)(rs:List E3)(key:ByteArray)(w:World)(R:NRd w v rs)(hn:rs.length<=1048576)(t:Srt rs):
  Calls Tryz.prog 119 #[v,.string key,.func (.func 120) #[] #[]] w fun e w'=>Bl w w'/\kK rs key e:=by
 obtain⟨a,N,rfl,o⟩:=R;go_enter Tryz.func119,Tryz.ntmps119;go_wp2;go_loopw [9,10] (fun u v wr=>∃i j:Nat,i<=j/\j<=rs.length/\u=iV i/\v=iV j/\Bl w wr/\(∀a,a<i->kl (rs.getD a e0).1 key=true)/\∀a,j<=a->a<rs.length->kl (rs.getD a e0).1 key=false) (fun u v _=>(intOf v).toNat -(intOf u).toNat)
 case atStart=>exact⟨0,rs.length,Nat.zero_le _,nR _,rfl,rfl,bQ _ _,fun a P=>by omega,fun a O H=>by omega⟩
 case round=>
  obtain⟨i,j,W,Q,rfl,rfl,c,A,q⟩:=hrel;by_cases V:i<j
  ·obtain⟨b,off,rfl,m⟩:=o (by omega)
   have U:i<=(i+j) / 2/\(i+j) / 2<j:=by omega
   obtain⟨d,f,g⟩:=m ((i+j) / 2) (by omega);have l:b<w.heap.size:=World.block_lt_of_cell? _ _ d;rw[<-c.cell (p:=aD b (off+(i+j) / 2*3)) l]at d;rw[<-c.cell (p:=aD b (off+(i+j) / 2*3+1)) l]at f;rw[<-c.cell (p:=aD b (off+(i+j) / 2*3+2)) l]at g;have S:(i:Int) <(j:Int):=by omega
   obtain⟨p,h⟩:∃p,Hid (rs.getD ((i+j) / 2) e0=p):=⟨_,rfl⟩;rw[h.out]at d f g;obtain⟨x,y,z⟩:=p;simp only at d f g;have r:Hid (∀a,a<i->kl (rs.getD a e0).1 key=true):=A;have C:Hid (∀a,j<=a->a<rs.length->kl (rs.getD a e0).1 key=false):=q;clear o m A q;go_wp2_with fail;refine(oQ x y z key _).mono ?_;rintro e w1 ⟨rfl,n⟩;have s:=c.trans (n.mono c.size);have F:Hid (nN x key=if kl x key=true then -1 else if kl key x=true then 1 else 0):=rfl;clear d f g n c;by_cases k:kl x key=true
   ·rw[F.out,if_pos k]
    have M:Hid (∀a,a <(i+j) / 2+1->kl (rs.getD a e0).1 key=true):=fun a P=>by
     by_cases e:a=(i+j) / 2
     ·rw[e,h.out];exact k
     ·have:=t a ((i+j) / 2) (by omega) (by omega)
      rw[show ky rs ((i+j) / 2)=(rs.getD ((i+j) / 2) e0).1 from rfl,h.out]at this;exact kM this k
    go_wp2
    go_roundw
    case rel=>exact⟨(i+j) / 2+1,j,by omega,Q,by go_num,rfl,s,M.out,C.out⟩
    case measure=>simp[intOf];omega
   ·have T:¬nN x key<0:=by rw[F.out,if_neg k];split<;>omega
    have L:Hid (∀a,(i+j) / 2<=a->a<rs.length->kl (rs.getD a e0).1 key=false):=fun a O H=>by
     by_cases e:a=(i+j) / 2
     ·rw[e,h.out];exact Bool.eq_false_iff.2 k
     ·have:=t ((i+j) / 2) a (by omega) H
      rw[show ky rs ((i+j) / 2)=(rs.getD ((i+j) / 2) e0).1 from rfl,h.out]at this;exact gO (Bool.eq_false_iff.2 k) (fN this)
    generalize nN x key=cv at *;clear k;go_wp2;go_roundw
    case rel=>exact⟨i,(i+j) / 2,by omega,by omega,rfl,by go_num,s,r.out,L.out⟩
    case measure=>simp[intOf];omega
  ·have J:i=j:=by omega
   subst J;have r:Hid (∀a,a<i->kl (rs.getD a e0).1 key=true):=A;have C:Hid (∀a,i<=a->a<rs.length->kl (rs.getD a e0).1 key=false):=q;clear A q;by_cases I:i<rs.length
   ·obtain⟨b,off,rfl,m⟩:=o (by omega)
    obtain⟨d,f,g⟩:=m i I;have l:b<w.heap.size:=World.block_lt_of_cell? _ _ d;rw[<-c.cell (p:=aD b (off+i*3)) l]at d;rw[<-c.cell (p:=aD b (off+i*3+1)) l]at f;rw[<-c.cell (p:=aD b (off+i*3+2)) l]at g;have K:(i:Int) <(rs.length:Int):=by omega
    obtain⟨p,h⟩:∃p,Hid (rs.getD i e0=p):=⟨_,rfl⟩;rw[h.out]at d f g;obtain⟨x,y,z⟩:=p;simp only at d f g;clear o m;go_wp2_with fail;refine(oQ x y z key _).mono ?_;rintro e w1 ⟨rfl,n⟩;have s:=c.trans (n.mono c.size);have G:∀cv,nN x key=cv->Hid (kK rs key (.returned (.tuple #[iV i,.bool (cv == 0)]))):=fun cv E=>kK.yes t I r.out C.out (by rw[h.out];exact E);generalize E:nN x key=cv at *;have D:=G cv rfl;clear d f g n c G E;go_wp2;exact bodyPost_ret (v:=.tuple #[iV i,.bool (cv == 0)]) (by simp[results,Tryz.results119,go_sem]) rfl ⟨s,D.out⟩
   ·clear o
    have K:¬(i:Int) <(rs.length:Int):=by omega
    have B:i=rs.length:=by omega
    have D:Hid (kK rs key (.returned (.tuple #[iV i,.bool false]))):=(by rw[B];exact kK.no t (by rw[<-B];exact r.out));clear B;go_wp2;exact bodyPost_ret (v:=.tuple #[iV i,.bool false]) (by simp[results,Tryz.results119,go_sem]) rfl ⟨c,D.out⟩
theorem iG(v:Value)(rs:List E3)(key:ByteArray)(w:World)(c:NRd w v rs)(hn:rs.length<=1048576)(h:Srt rs):
  Calls Tryz.prog 101 #[v,.string key] w fun e w'=>Bl w w'/\kK rs key e:=by
 obtain⟨a,b,d,g⟩:=id c;subst d;have i:∀(fn:Fn) (first b:Array Value) (w:World),(Instr.makeFunc fn first b).run Tryz.prog w=.ok (.func fn first b) w:=fun _ _ _ _=>rfl;clear g;go_enter Tryz.func101,Tryz.ntmps101;go_wp2_with fail;refine(aAK _ rs key _ c hn h).mono ?_;rintro e w1 ⟨f,rfl⟩;go_wp2;exact bodyPost_ret (v:=.tuple #[iV (cLt rs key),.bool (fM rs key)]) (by simp[results,Tryz.results101,go_sem]) rfl ⟨f,rfl⟩
theorem aBT(c:Srt es)(key:ByteArray):bL es key=if fM es key=true\/cLt es key=0 then cLt es key else cLt es key-1:=by
 have i:=kT es key;have k:=wK es key;unfold bL;by_cases d:fM es key=true
 ·rw[if_pos (.inl d)]
  obtain⟨h,g⟩:=(dK es key).1 d;have a:cLt es key<cLe es key:=(gC c key h).1 (by rw[g];exact eI _);have b:¬cLt es key+1<cLe es key:=fun q=>by
   have:=(gC c key (j:=cLt es key+1) (by omega)).2 q
   have f:=c (cLt es key) (cLt es key+1) (by omega) (by omega);rw[g,this]at f;cases f
  omega
 ·have e:cLe es key=cLt es key:=by
   refine Nat.le_antisymm (Nat.le_of_not_lt fun q=>?_) (Nat.le_of_not_lt fun q=>?_)
   ·have a:=(gC c key (j:=cLt es key) (by omega)).2 q
    rcases lF a with e | e
    ·exact d ((dK es key).2 ⟨by omega,e.symm⟩)
    ·have:=(gZ c key (j:=cLt es key) (by omega)).1 e;omega
   ·have a:=(gZ c key (j:=cLe es key) (by omega)).2 q
    have:=(gC c key (j:=cLe es key) (by omega)).1 (fN a);omega
  rw[e];split
  ·rename_i q;rcases q with q | q
   ·exact absurd q d
   ·omega
  ·rfl
theorem gA(q:Nat)(d:Nd)(a:Option Nat)(b:List E3)(w:World)(h:aN w q d a b):
  Calls Tryz.prog 124 #[pT q 0] w fun e w'=>e=.returned (.bool (decide (2<d.2.length)))/\w'=w:=by
 have c:w.cell? (aD q 1)=some (.slice (adr a) d.2.length (d.2.length+b.length)):=by rw[h.box.cell];rfl
 have f:d.2.length+b.length<=9223372036854775807:=by have:=h.small;simp[maxLen]at this;omega
 go_enter Tryz.func124,Tryz.ntmps124
 go_wp2
 go_ret
 exact⟨by simp;omega,rfl⟩
theorem hZ(q:Nat)(d:Nd)(a:Option Nat)(b:List E3)(key:ByteArray)(w:World)(h:aN w q d a b)(o:Srt d.2)(p:d.2.length<=10):
  Calls Tryz.prog 103 #[pT q 0,.string key] w fun e w'=>e=.returned (iV (bL d.2 key))/\Bl w w':=by
 obtain⟨k,es⟩:=d;simp only at o p |-;have u:w.cell? (aD q 1)=some (.slice (adr a) es.length (es.length+b.length)):=by rw[h.box.cell];rfl
 have j:Hid (bL es key=if fM es key=true\/cLt es key=0 then cLt es key else cLt es key-1):=aBT o key;have r:NRd w (.slice (adr a) es.length (es.length+b.length)) es:=h.dp.ep;have s:=kT es key;go_enter Tryz.func103,Tryz.ntmps103;go_wp2_with fail;refine(iG _ es key _ r (by omega) o).mono ?_;rintro e w1 ⟨l,rfl⟩;by_cases i:fM es key=true
 ·have c:Hid (bL es key=cLt es key):=by rw[j.out,if_pos (.inl i)];rfl
  rw[i];generalize cLt es key=n at *;go_wp2;go_ret;exact⟨by rw[c.out];simp,l⟩
 ·have f:fM es key=false:=Bool.eq_false_iff.2 i
  by_cases g:cLt es key=0
  ·have c:Hid (bL es key=0):=by rw[j.out,if_pos (.inr g),g];rfl
   rw[f,g];clear g;go_wp2;go_ret;exact⟨by rw[c.out];simp,l⟩
  ·have c:Hid (bL es key=cLt es key-1):=by rw[j.out,if_neg (fun q=>q.elim i g)];rfl
   rw[f];generalize cLt es key=n at *;obtain⟨m,rfl⟩:∃m,n=m+1:=⟨n-1,by omega⟩;have t:(((m+1:Nat):Int) == 0)=false:=by rw[beq_eq_false_iff_ne];omega
   go_wp2
   go_ret
   exact⟨by rw[c.out];simp,l⟩
def tO(v:Value):Option (DataW Unit×List MemPlace):=match v with
 | .pointer none=>some (.lit (.int .i64 (-1)),[])
 | .pointer (some p)=>if p.off=0/\p.spot=none then some (.lit (.int .i64 p.block),[])else none
 | _=>none
theorem aAD{d:DataW Unit}{ps:List MemPlace}(h:tO v=some (d,ps)):(v=.pointer none/\d=.lit (.int .i64 (-1)))\/∃q:Nat,v=pT q 0/\d=.lit (.int .i64 q):=by
 unfold tO at h;split at h
 ·cases h;exact .inl ⟨rfl,rfl⟩
 ·rename_i p
  split at h
  ·rename_i a
   cases h
   obtain⟨b,off,c⟩:=p;simp only at a;obtain⟨rfl,rfl⟩:=a;exact .inr ⟨b,rfl,rfl⟩
  ·cases h
 ·cases h
def fB(x:Option Nat):Value:=.pointer (x.map fun q=>⟨q,0,none⟩)
def uY(x:Option Nat):DataW Unit:=.lit (.int .i64 (match x with
 | some q=>(q:Int)
 | none=>-1))
def aHZ(φ:Nat->Option Nat):Nat:=cX 512 fun b=>if(φ b).isSome then 1 else 0
theorem aLL(φ:Nat->Option Nat):aHZ φ<=512:=by
 have:∀n,cX n (fun b=>if(φ b).isSome then 1 else 0)<=n:=fun n=>by
  induction n with
  | zero=>exact nR _
  | succ n ih=>simp only[cX];split<;>omega
 exact this 512
theorem yM(φ:Nat->Option Nat){b:Nat}(a:b<512)(x:Option Nat):aHZ (upd φ b x)+(if(φ b).isSome then 1 else 0)=aHZ φ+(if x.isSome then 1 else 0):=by
 have:=mE (n:=512) (g:=fun b=>if(φ b).isSome then 1 else 0) (g':=fun y=>if(upd φ b x y).isSome then 1 else 0) a (fun y c=>by simp only[aC _ _ c])
 simpa [aHZ,aE] using this
abbrev kB(b:Nat):Lit:=.int .i64 b
theorem pM{a b:Nat}(h:kB a=kB b):a=b:=by
 simp only[kB,Lit.int.injEq,true_and]at h;omega
def dV(w:World)(m:Nat)(φ:Nat->Option Nat):Prop:=
 ∃D,w.ownsMap Tryz.prog 2 tO m (Maps.size D) D/\Maps.size D=aHZ φ/\(∀b,b<512->Maps.has D (kB b)=(φ b).isSome)/\∀b,b<512->D.atKey (kB b) (uY none)=uY (φ b)
theorem gG:Maps.Keyed Tryz.prog 2:=Maps.int_keyed (q:=.i64) Tryz.underlying2
theorem zN(b:Nat)(d:b<512):keyOf Tryz.prog 2 (iV b)=some (kB b):=by
 have a:IntKind.i64.min=-9223372036854775808:=by decide
 have c:IntKind.i64.max=9223372036854775807:=by decide
 refine Maps.keyOf_int_mk Tryz.underlying2 ?_;unfold Lit.wf;simp only[a,c,Bool.and_eq_true,decide_eq_true_eq];omega
theorem dV.lookup(h:dV w m φ)(b:Nat)(c:b<512):(Instr.lookup 64 (.map (some m)) (iV b) false).run Tryz.prog w=.ok (fB (φ b)) w:=by
 obtain⟨D,f,l,n,g⟩:=h;have j:(zeroValue 93).run Tryz.prog w=.ok (.pointer none) w:=by kernel_rfl
 obtain⟨v,ps,i,d⟩:=f.lookup gG Tryz.underlying64 j (zd:=uY none) (zp:=[]) rfl (zN b c);rw[g b c]at d;rw[i];rcases aAD d with⟨rfl,e⟩ | ⟨q,rfl,e⟩
 ·cases a:φ b with
  | none=>rfl
  | some q=>
   rw[a]at e;simp only[uY,DataW.lit.injEq,Lit.int.injEq,true_and]at e;omega
 ·cases a:φ b with
  | none=>
   rw[a]at e;simp only[uY,DataW.lit.injEq,Lit.int.injEq,true_and]at e;omega
  | some k=>
   rw[a]at e;simp only[uY,DataW.lit.injEq,Lit.int.injEq,true_and]at e;have:k=q:=by omega
   subst this;rfl
theorem dV.of(h:dV w m φ)(he:w'.heap[m]?=w.heap[m]?):dV w' m φ:=by
 obtain⟨D,⟨es,cl,a,b⟩,c,d,e⟩:=h;exact⟨D,⟨es,cl,he.trans a,b⟩,c,d,e⟩
theorem dV.lt(h:dV w m φ):m<w.heap.size:=by
 obtain⟨D,a,_⟩:=h;exact a.lt
theorem dV.tight{n:Nat}{D:DataW Unit}(h:w.ownsMap Tryz.prog 2 tO m n D):w.ownsMap Tryz.prog 2 tO m (Maps.size D) D:=by
 obtain⟨es,cl,a,b,c,rfl⟩:=h;exact⟨es,cl,a,b,by simp[Maps.size,length_sorted],rfl⟩
theorem dV.put(h:dV w m φ)(b q:Nat)(f:b<512):∃w',(Instr.mapUpdate 64 (.map (some m)) (iV b) (pT q 0)).run Tryz.prog w=.ok () w'/\dV w' m (upd φ b (some q))/\Frm (fun k=>k=m) w w':=by
 obtain⟨D,j,l,n,r⟩:=h;have ht:=j.tidy gG;have z:=aLL φ;obtain⟨w',v,u,a⟩:=j.update gG Tryz.underlying64 (by rw[l];simp[maxLen];omega) (zN b f) (val:=pT q 0) (d:=uY (some q)) (ps:=[]) (by simp[tO,uY]);have p:WideAt.IsKeyLit (kB b):=gG.key (zN b f);refine⟨w',v,⟨D.put (kB b) (uY (some q)),dV.tight u,?_,fun x g=>?_,fun x g=>?_⟩,⟨a.os,a.tape,a.output,a.size,fun k s t=>a.block k s (fun e=>t (Option.some.inj e))⟩⟩
 ·have i:=Maps.size_put (k:=kB b) ht (uY (some q))
  have c:=yM φ f (some q);rw[n b f]at i;rw[i,l];cases o:φ b with
  | none=>rw[o]at c;simp at c |-;omega
  | some y=>rw[o]at c;simp at c |-;omega
 ·by_cases e:x=b
  ·subst e;rw[Maps.has_put_same ht.isMap p,aE];rfl
  ·rw[Maps.has_put_other (fun q=>e (pM q)),aC _ _ e];exact n x g
 ·by_cases e:x=b
  ·subst e;rw[Maps.atKey_put_same ht.isMap p,aE]
  ·rw[Maps.atKey_put_other (fun q=>e (pM q)),aC _ _ e];exact r x g
theorem dV.del(h:dV w m φ)(b:Nat)(f:b<512)(n:TypeId):∃w',(Builtin.delete_ #[64,2] n #[.map (some m),iV b]).run Tryz.prog w=.ok (.tuple #[]) w'/\dV w' m (upd φ b none)/\Frm (fun k=>k=m) w w':=by
 obtain⟨D,i,u,j,o⟩:=h;have ht:=i.tidy gG;obtain⟨w',t,s,a⟩:=i.drop gG Tryz.underlying64 (zN b f) n;have a:=a.grown;refine⟨w',t,⟨D.del (kB b),dV.tight s,?_,fun x g=>?_,fun x g=>?_⟩,⟨a.os,a.tape,a.output,a.size,fun k p r=>a.block k p (fun e=>r (Option.some.inj e))⟩⟩
 ·have c:=Maps.size_del (k:=kB b) ht
  have d:=yM φ f none;rw[j b f]at c;cases l:φ b with
  | none=>rw[l]at c d;simp at c d;omega
  | some y=>rw[l]at c d;simp at c d;omega
 ·by_cases e:x=b
  ·subst e;rw[Maps.has_del_same,aE];rfl
  ·rw[Maps.has_del_other (fun q=>e (pM q)),aC _ _ e];exact j x g
 ·by_cases e:x=b
  ·subst e;rw[Maps.atKey_del_same,aE]
  ·rw[Maps.atKey_del_other (fun q=>e (pM q)),aC _ _ e];exact o x g
abbrev JE:=Int×Int×Option Nat
abbrev j0:JE:=(0,0,none)
def cE(e:JE):List Value:=[iV e.1,iV e.2.1,fB e.2.2]
def iY(l:List JE):Array Value:=(l.flatMap cE).toArray
theorem aOE:(Tryz.prog.info? 178).map (fun i=>(i.zero,i.size,i.bytes))=some (some (.agg #[iV 0,iV 0,.pointer none]),3,24):=by kernel_rfl
theorem aPE:∃i,Tryz.prog.info? 178=some i/\i.size=3/\i.bytes=24/\i.zero=some (.agg #[iV 0,iV 0,.pointer none]):=by
 have h:=aOE;cases e:Tryz.prog.info? 178 with
 | none=>rw[e]at h;cases h
 | some i=>
  rw[e]at h;simp only[Option.map_some,sJ,Prod.mk.injEq]at h;exact⟨i,rfl,h.2.1,h.2.2,h.1⟩
theorem aGU(es a vs:List JE)(h:vs.length<=a.length):spl (es++a) es.length vs=es++vs++a.drop vs.length:=by
 unfold spl;rw[List.take_left,<-List.drop_drop,List.drop_left]
theorem aPO{need old:Nat}(h:need<=1000000)(a:old<need):Builtin.nextslicecap need old*24<=281474976710656:=growslice_fits (bytes:=24) (need:=need) (old:=old) (by omega) (by omega)
theorem cT(es:List JE):(es.flatMap cE).length=es.length*3:=by
 induction es with
 | nil=>rfl
 | cons e es ih=>simp only[List.flatMap_cons,lP,ih,List.length_cons];simp[cE];omega
theorem aGO(es:List JE):(iY es).size=es.length*3:=by unfold iY;rw[List.size_toArray,cT]
theorem sE(es:List JE)(b:i<es.length):(es.flatMap cE)[i*3]?=some (iV (es.getD i j0).1)/\(es.flatMap cE)[i*3+1]?=some (iV (es.getD i j0).2.1)/\(es.flatMap cE)[i*3+2]?=some (fB (es.getD i j0).2.2):=by
 induction es generalizing i with
 | nil=>simp at b
 | cons e es ih=>
  cases i with
  | zero=>simp[cE]
  | succ i=>
   have:=ih (i:=i) (by simpa using b)
   have c:(e :: es).flatMap cE=cE e++es.flatMap cE:=List.flatMap_cons;have a:(cE e).length=3:=rfl;rw[c];rw[List.getElem?_append_right (by rw[a];omega),List.getElem?_append_right (by rw[a];omega),List.getElem?_append_right (by rw[a];omega),a];rw[show(i+1)*3-3=i*3 by omega,show(i+1)*3+1-3=i*3+1 by omega,show(i+1)*3+2-3=i*3+2 by omega];simpa using this
theorem aKD(es:List JE)(a:i<es.length):(iY es)[i*3]?=some (iV (es.getD i j0).1)/\(iY es)[i*3+1]?=some (iV (es.getD i j0).2.1)/\(iY es)[i*3+2]?=some (fB (es.getD i j0).2.2):=by
 simpa [iY] using sE es a
theorem aEX(es:List JE):∀v∈es.flatMap cE,v.oneCell'=true:=fun v b=>by
 obtain⟨e,_,a⟩:=List.mem_flatMap.1 b;simp only[cE,List.mem_cons,List.not_mem_nil,or_false]at a;rcases a with rfl | rfl | rfl<;>rfl
theorem vZ(xs ys:List JE)(i:Nat):spl (xs.flatMap cE) (i*3) (ys.flatMap cE)=(spl xs i ys).flatMap cE:=by
 have c:∀(l:List JE) (n:Nat),(l.flatMap cE).take (n*3)=(l.take n).flatMap cE:=by
  intro l;induction l with
  | nil=>intro n;simp
  | cons e l ih=>
   intro n;cases n with
   | zero=>simp
   | succ n=>
    have a:(cE e).length=3:=rfl;rw[List.flatMap_cons,List.take_succ_cons,List.flatMap_cons,List.take_append,a,List.take_of_length_le (by rw[a];omega),show(n+1)*3-3=n*3 by omega,ih]
 have b:∀(l:List JE) (n:Nat),(l.flatMap cE).drop (n*3)=(l.drop n).flatMap cE:=by
  intro l;induction l with
  | nil=>intro n;simp
  | cons e l ih=>
   intro n;cases n with
   | zero=>simp
   | succ n=>
    have a:(cE e).length=3:=rfl;rw[List.flatMap_cons,List.drop_succ_cons,List.drop_append,a,List.drop_of_length_le (by rw[a];omega),show(n+1)*3-3=n*3 by omega,ih,List.nil_append]
 unfold spl;rw[c,cT,<-Nat.add_mul,b,List.flatMap_append,List.flatMap_append]
def Jsl(w:World)(v:Value)(es:List JE):Prop:=
 (v=.slice none 0 0/\es=[])\/∃g o cap xs,v=sL g (o*3) es.length cap/\IsC w g (iY xs) 178/\o+es.length<=xs.length/\(xs.drop o).take es.length=es
theorem Jsl.cells{o:Nat}{xs es:List JE}(h:IsC w g (iY xs) 178)(f:o+es.length<=xs.length)(he:(xs.drop o).take es.length=es):∀j v,(es.flatMap cE)[j]?=some v->w.cell? ((⟨g,o*3,none⟩:Addr).add j)=some v:=fun j v a=>by
 have d:(⟨g,o*3,none⟩:Addr).add j=⟨g,o*3+j,none⟩:=by unfold Addr.add;split<;>simp_all
 rw[d,h.cell];have b:spl (xs.flatMap cE) (o*3) (es.flatMap cE)=xs.flatMap cE:=by
  rw[vZ];congr 1;unfold spl;rw[<-he,List.length_take,List.length_drop,List.append_assoc];rw[show min es.length (xs.length-o)=es.length by omega];rw[<-List.drop_drop,List.take_append_drop,List.take_append_drop]
 have e:j <(es.flatMap cE).length:=(List.getElem?_eq_some_iff.1 a).1;have:(iY xs)[o*3+j]?=(xs.flatMap cE)[o*3+j]?:=by simp[iY]
 rw[this,<-b];unfold spl;have c:((xs.flatMap cE).take (o*3)).length=o*3:=by
  rw[List.length_take,cT];omega
 rw[List.append_assoc,List.getElem?_append_right (by omega),c,show o*3+j-o*3=j by omega,List.getElem?_append_left e];exact a
theorem aPL(m:Nat):Builtin.zeroCells #[iV 0,iV 0,.pointer none] m=((List.replicate m j0).flatMap cE).toArray:=by
 apply Array.toList_inj.1
 simp only[Builtin.zeroCells,List.size_toArray,List.length_cons,List.length_nil,Array.toList_map,Array.toList_range];induction m with
 | zero=>rfl
 | succ m ih=>
  have b:List.range ((m+1)*3)=List.range (m*3)++[m*3,m*3+1,m*3+2]:=by
   rw[show(m+1)*3=m*3+1+1+1 by omega,List.range_succ,List.range_succ,List.range_succ];simp
  have a:List.replicate (m+1) j0=List.replicate m j0++[j0]:=List.replicate_succ';rw[a,List.flatMap_append,<-ih];simp only[Nat.zero_add,Nat.reduceAdd];rw[b,List.map_append];congr 1;simp only[List.map_cons,List.map_nil,show m*3 % 3=0 by omega,show(m*3+1) % 3=1 by omega,show(m*3+2) % 3=2 by omega];rfl
theorem aHO(a:Option Nat)(es b vs:List JE)(v:Value)(W:World)(m:∀g,a=some g->IsC W g (iY (es++b)) 178)(hn:a=none->es=[]/\b=[])(B:Jsl W v vs)(F:es.length+vs.length<=1000000)(G:es.length+b.length<=maxLen):
  ∃u W' a' junk',(∀ty,(Builtin.append_ #[65,65] ty #[.slice (adr a) es.length (es.length+b.length),v]).run Tryz.prog W=.ok u W')/\u=.slice (adr a') (es.length+vs.length) (es.length+vs.length+junk'.length)/\
   (∀g,a'=some g->IsC W' g (iY (es++vs++junk')) 178/\(a=some g\/W.heap.size<=g))/\(a'=none->es=[]/\vs=[]/\junk'=[])/\es.length+vs.length+junk'.length<=maxLen/\Frm (fun k=>a=some k) W W':=by
 obtain⟨c,l,h,r,D⟩:=aPE;have j:Src Tryz.prog c.size 65 v vs.length (vs.flatMap cE) W:=by
  rcases B with⟨rfl,rfl⟩ | ⟨x,o,i,xs,rfl,C,z,y⟩
  ·exact Src.ofNil W Tryz.underlying65 0
  ·exact Src.ofSlice W Tryz.underlying65 ⟨x,o*3,none⟩ vs.length i _ (by rw[cT,h]) (Jsl.cells C z y) (aEX vs)
 by_cases p:vs.length<=b.length
 ·cases a with
  | none=>
   obtain⟨rfl,rfl⟩:=hn rfl;have s:vs=[]:=List.length_eq_zero_iff.1 (by simpa using p);subst s;refine⟨_,W,none,[],fun ty=>?_,rfl,fun g q=>(by cases q),fun _=>⟨rfl,rfl,rfl⟩,by simp,Frm.refl _ _⟩;have:=run_append_nothing (P:=Tryz.prog) W 65 65 ty 178 c Tryz.underlying65 l none 0 0 (nR _) v j;exact this
  | some g=>
   have d:=m g rfl;refine⟨_,_,some g,b.drop vs.length,fun ty=>run_append_room_src (P:=Tryz.prog) W 65 65 ty 178 c Tryz.underlying65 l g 0 es.length (es.length+b.length) v _ _ j (by omega)
    (fun k n=>by rw[cT]at n;rw[d.cell,h,Array.getElem?_eq_getElem (by rw[aGO,lP];omega)];rfl) (fun k n=>d.frozen _),?_,fun g' q=>?_,fun q=>(by cases q),?_,?_⟩
   ·simp[adr];omega
   ·cases q
    refine⟨?_,.inl rfl⟩;have:=IsC.a8 (vs.flatMap cE) (cs:=(es++b).flatMap cE) (es.length*3) d (by rw[cT,cT,lP];omega);rw[vZ,aGU _ _ _ p]at this;rw[h,Nat.zero_add];exact this
   ·simp;omega
   ·exact Frm.a8 (S:=fun k=>some g=some k) _ rfl _ _
 ·have E:(Builtin.firstCells c.size es.length (.slice (adr a) es.length (es.length+b.length))).run Tryz.prog W.drew=.ok (es.flatMap cE).toArray W.drew:=by
   cases a with
   | none=>
    obtain⟨rfl,rfl⟩:=hn rfl;exact run_firstCells_none (P:=Tryz.prog) W.drew c.size 0 0 0
   | some g=>
    have d:=m g rfl;exact run_firstCells_some (P:=Tryz.prog) W.drew c.size es.length ⟨g,0,none⟩ es.length _ (es.flatMap cE) (by rw[cT,h]) (by
     have:=Jsl.cells (w:=W.drew) (g:=g) (o:=0) (xs:=es++b) (es:=es) d.drew (by rw[lP];omega) (by simp)
     rw[Nat.zero_mul]at this;exact this)
  have A:=fun ty=>run_append_grow_src (P:=Tryz.prog) W 65 65 ty 178 c _ Tryz.underlying65 l D (adr a) es.length (es.length+b.length) (es.flatMap cE) E v vs.length (vs.flatMap cE) j (by omega) (by omega) (by rw[r];exact aPO (by omega) (by omega));have I:=grownCap_ge W (es.length+vs.length) (es.length+b.length) 178;have H:=grownCap_le_maxLen W (es.length+vs.length) (es.length+b.length) 178 (by simp[maxLen];omega);generalize grownCap W (es.length+vs.length) (es.length+b.length) 178=f at *;refine⟨_,_,some W.heap.size,List.replicate (f -(es.length+vs.length)) j0,A,?_,fun g q=>?_,fun q=>(by cases q),?_,?_⟩
  ·simp[adr];omega
  ·cases q
   refine⟨?_,.inr (nR _)⟩;have t:(Value.agg #[iV 0,iV 0,.pointer none]).cells=#[iV 0,iV 0,.pointer none]:=by kernel_rfl
   have:=IsC.new W.drew ((es.flatMap cE++vs.flatMap cE).toArray++Builtin.zeroCells (Value.agg #[iV 0,iV 0,.pointer none]).cells (f -(es.length+vs.length))) 178
   have e:iY (es++vs++List.replicate (f -(es.length+vs.length)) j0)=(es.flatMap cE++vs.flatMap cE).toArray++Builtin.zeroCells (Value.agg #[iV 0,iV 0,.pointer none]).cells (f -(es.length+vs.length)):=by
    rw[t,aPL];simp[iY]
   rw[e];exact this
  ·simp;omega
  ·exact(Frm.drew _ W).trans (Frm.alloc _ _ _)
def SvS(P m c n b:Nat)(cu0:Int)(x:Option Nat)(jv:Value)(w:World):Prop:=
 w.cell? (aD P 3)=some (.map (some m))/\w.cell? (aD P 4)=some (sL c 0 n n)/\w.cell? (aD P 7)=some jv/\w.cell? (aD c b)=some (iV cu0)/\
  (Instr.lookup 64 (.map (some m)) (iV b) false).run Tryz.prog w=.ok (fB x) w
theorem aBN(w:World):Calls Tryz.prog 116 #[.pointer none] w fun e w'=>e=.returned (.pointer none)/\w'=w:=by
 go_enter Tryz.func116,Tryz.ntmps116
 go_wp2
 go_ret
 exact⟨rfl,rfl⟩
structure aNL(w w':World)(x x':Option Nat)(d:Nd):Prop where
 below:Bl w w'
 none:x=none->x'=none
 some:∀q,x=some q->∃q' a' j',x'=some q'/\w.heap.size<=q'/\(∀g,a'=some g->w.heap.size<=g)/\aN w' q' d a' j'
theorem yU(x:Option Nat)(d:Nd)(w:World)(hx:∀q,x=some q->∃a junk,aN w q d a junk)(f:d.2.length<=10):
  Calls Tryz.prog 116 #[fB x] w fun e w'=>∃x',e=.returned (fB x')/\aNL w w' x x' d:=by
 cases x with
 | none=>
  refine(aBN w).mono ?_;rintro e w' ⟨rfl,rfl⟩;exact⟨none,rfl,bQ _ _,fun _=>rfl,fun q e=>by cases e⟩
 | some q=>
  obtain⟨a,junk,h⟩:=hx q rfl;refine(mQ q d a junk w h f).mono ?_;rintro e w' ⟨u,rfl,⟨b,c,l,rfl,g,i,j⟩,k⟩;exact⟨some b,rfl,k,fun e=>(by cases e),fun m e=>⟨b,c,l,rfl,g,i,j⟩⟩
theorem aLI(W:World)(x y:Int)(p:Option Addr):(Instr.build 178 #[(0,iV x),(1,iV y),(2,.pointer p)]).run Tryz.prog W=.ok (.agg #[iV x,iV y,.pointer p]) W:=by kernel_rfl
theorem aMS(W:World)(x y:Int)(p:Option Addr):(Instr.buildSlice 65 1 #[(0,.agg #[iV x,iV y,.pointer p])]).run Tryz.prog W=.ok (sL W.heap.size 0 1 1) (W.alloc (.cells #[iV x,iV y,.pointer p] 178)):=by kernel_rfl
theorem kJ{P:Program}{o:Oper}{a:Act}{K:Act->World->Prop}{Q:Exit->Act->World->Prop}(s x:Operand)(t b:TypeId)
  (e:o.op=.call {callee:=.builtin .append,args:=#[s,x],argTypes:=#[t,b]}) (vs d:Value) (f:a.eval s=vs) (hx:a.eval x=d)
  (c:Value) (w':World) (hr:(Builtin.append_ #[t,b] o.type #[vs,d]).run P w=.ok c w') (h:K (a.put o.dst c) w'):Oper.wp P o a w K Q:=by
 unfold Oper.wp execOp;simp only[e,resolve,invoke,builtin,Sem.run_bind,Sem.run_pure,Result.andThen_ok,List.map_toArray,List.map_cons,List.map_nil,f,hx,hr];exact h
theorem aKK(P m c n b:Nat)(rs cm tv:Value)(nx gn:Int)(r:List Int)(φ:Nat->Option Nat)(l:Option Nat)(f s:List JE)(w:World)
  (N:IsC w P #[rs,iV nx,iV gn,.map (some m),sL c 0 n n,cm,tv,.slice (adr l) f.length (f.length+s.length)] 67) (hc:IsC w c (dA r) 2) (hn:r.length=n) (hb:b<n) (Cg:n<=512) (Q:dV w m φ)
  (d:Nd) (hx:∀q,φ b=some q->∃a junk,aN w q d a junk) (gh:d.2.length<=10) (D:∀g,l=some g->IsC w g (iY (f++s)) 178/\g≠P/\g≠m/\g≠c) (S7:l=none->f=[]/\s=[]) (ZI:f.length+s.length<=maxLen) (uq:f.length<=900000):
  Calls Tryz.prog 114 #[pT P 0,iV b] w fun e w'=>e=.returned (.tuple #[])/\∃x' ja' jj',IsC w' P #[rs,iV nx,iV gn,.map (some m),sL c 0 n n,cm,tv,.slice (adr ja') (f.length+1) (f.length+1+jj'.length)] 67/\
   (∀g,ja'=some g->IsC w' g (iY (f++[((b:Int),r.getD b 0,x')]++jj')) 178/\(l=some g\/w.heap.size<=g))/\ja'≠none/\f.length+1+jj'.length<=maxLen/\(∃w1,aNL w w1 (φ b) x' d/\Frm (fun k=>k=P\/l=some k) w1 w')/\Frm (fun k=>k=P\/l=some k) w w':=by
 have R:(dA r)[b]?=some (iV (r.getD b 0)):=by
  simp[dA,gD,show b<r.length by omega]
 have ig:=Q.lookup b (by omega);have J:∀W:World,W.heap[m]?=w.heap[m]?->(Instr.lookup 64 (.map (some m)) (iV b) false).run Tryz.prog W=.ok (fB (φ b)) W:=fun W C=>(Q.of C).lookup b (by omega);generalize r.getD b 0=i at *;generalize φ b=x at *;have U:=N.lt;have ap:=hc.lt;have V:=Q.lt;have O:∀W:World,(∀k,k<w.heap.size->W.heap[k]?=w.heap[k]?)->SvS P m c n b i x (.slice (adr l) f.length (f.length+s.length)) W:=fun W C=>by
  have v:IsC W P _ _:=N.of (C P U);have L:IsC W c _ _:=hc.of (C c ap);exact⟨v.c rfl,v.c rfl,v.c rfl,by rw[L.cell];exact R,J W (C m V)⟩
 have H:Hid (∀W:World,(∀k,k<w.heap.size->W.heap[k]?=w.heap[k]?)->SvS P m c n b i x (.slice (adr l) f.length (f.length+s.length)) W):=O;have p:SvS P m c n b i x (.slice (adr l) f.length (f.length+s.length)) w.drew:=O w.drew (fun _ _=>rfl);have DC:(b:Int) <(n:Int):=by omega
 have mq:b<n:=hb;have HC:Hid (r.length=n):=hn;have HB:Hid ((dA r)[b]?=some (iV i)):=R;have HM:Hid (∀W:World,W.heap[m]?=w.heap[m]?->(Instr.lookup 64 (.map (some m)) (iV b) false).run Tryz.prog W=.ok (fB x) W):=J;have IT:=aLI;have lj:=aMS;clear O ig J R hn;go_enter Tryz.func114,Tryz.ntmps114;refine bB (SvS P m c n b i x (.slice (adr l) f.length (f.length+s.length))) 25 (by kernel_rfl) ?_;refine tJ 0 4 (pT P 0) rfl p ?_;refine tJ 1 5 (pT P 0) rfl p ?_;refine tJ 2 6 (pT P 0) rfl p ?_;refine tJ 3 7 (pT P 7) rfl p ?_;refine tJ 4 8 (.slice (adr l) f.length (f.length+s.length)) rfl p ?_;refine tJ 5 9 (iV b) rfl p ?_;refine tJ 6 10 (pT P 0) rfl p ?_;refine tJ 7 11 (pT P 0) rfl p ?_;refine tJ 8 12 (pT P 4) rfl p ?_;refine tJ 9 13 (sL c 0 n n) rfl p ?_;refine tJ 10 14 (iV b) rfl p ?_;refine tJ 11 15 (pT c b) rfl p ?_;refine tJ 12 16 (iV i) rfl p ?_;refine tJ 13 17 (pT P 0) rfl p ?_;refine tJ 14 18 (pT P 0) rfl p ?_;refine tJ 15 19 (pT P 3) rfl p ?_;refine tJ 16 20 (.map (some m)) rfl p ?_;refine tJ 17 21 (iV b) rfl p ?_;refine tJ 18 22 (fB x) rfl p ?_;simp only[Act.put,sB,sZ,sS];refine oE 19 rfl fun K2 o=>?_;go_simp;refine(yU x d _ (fun q e=>by obtain⟨a,j,h⟩:=hx q e;exact⟨a,j,h.below (bQ _ _).drew⟩) gh).mono ?_;rintro e w1 ⟨x',rfl,F⟩;have B:Bl w w1:=(bQ w.heap.size w).drew.trans F.below;refine o _ _ (fun _=>H.out w1 fun k y=>B.block k y) ?_;clear o K2 p;have vo:=H.out w1 fun k y=>B.block k y;have RL:aNL w w1 x x' d:=⟨B,F.none,F.some⟩;clear F;obtain⟨S,X⟩:∃S,fB x'=.pointer S:=⟨_,rfl⟩;rw[X];refine oE 20 rfl fun K2 o=>?_;go_simp;refine o _ _ (fun _=>vo) ?_;clear o K2;refine oE 21 rfl fun K2 o=>?_;go_simp;obtain⟨Y,I⟩:=exH (w1.heap.size);obtain⟨G,E⟩:=exH (w1.alloc (.cells #[iV b,iV i,.pointer S] 178));rw[<-E.out,<-I.out];have uf:IsC G Y (iY [((b:Int),i,x')]) 178:=by rw[E.out,I.out,<-X];exact IsC.new _ _ _
 have c9:Bl w1 G:=by rw[E.out];exact(bQ w1.heap.size w1).alloc (nR _) _
 have z:=B.trans (c9.mono B.size);have hY:w.heap.size<=Y:=by rw[I.out];exact B.size
 clear E;have i9:=H.out G fun k y=>z.block k y;refine o _ _ (fun _=>i9) ?_;clear o K2 vo;obtain⟨u,t,ja',jj',hr,hu,v,L,h3,M⟩:=aHO l f s [((b:Int),i,x')] (sL Y 0 1 1) G (fun g e=>(D g e).1.of (z.block g (D g e).1.lt)) S7 (.inr ⟨Y,0,1,[((b:Int),i,x')],by simp,uf,by simp,by simp⟩) (by simp;omega) ZI;simp only[List.length_cons,List.length_nil,Nat.zero_add]at hu v h3;refine oE 22 rfl fun K2 o=>?_;refine kJ (.tmp 8) (.tmp 25) _ _ (by rfl) (.slice (adr l) f.length (f.length+s.length)) (sL Y 0 1 1) (by rfl) (by rfl) u t (hr _) ?_;have K:∀k,k<w.heap.size->l≠some k->t.heap[k]?=w.heap[k]?:=fun k y hn=>by
  rw[M.block k (lL y z.size) hn,z.block k y]
 have Z:l≠some P:=fun e=>(D P e).2.1 rfl;have S6:l≠some m:=fun e=>(D m e).2.2.1 rfl;have ZH:l≠some c:=fun e=>(D c e).2.2.2 rfl;have A:IsC t P _ _:=N.of (K P U Z);have ME:IsC t c _ _:=hc.of (K c ap ZH);have ZS:=HM.out t (K m V S6);have T:SvS P m c n b i x (.slice (adr l) f.length (f.length+s.length)) t:=⟨A.c rfl,A.c rfl,A.c rfl,by rw[ME.cell];exact HB.out,ZS⟩;refine o _ _ (fun _=>T) ?_;clear o K2 i9;subst hu;simp only[Act.put,sB,sZ,sS];have Ic:=A.frozen 7;have Ns:t.cell? (aD P 7)=some (.slice (adr l) f.length (f.length+s.length)):=A.c rfl;refine oE 23 rfl fun K2 o=>?_;go_simp;refine o _ _ (fun _=>T) ?_;clear o K2;refine oE 24 rfl fun K2 o=>?_;go_simp;refine o _ _ (fun _=>T) ?_;clear o K2;refine oE 25 rfl fun K2 o=>?_;go_simp;refine o _ _ (fun q=>absurd rfl q) ?_;clear o K2;refine aT (by kernel_rfl) ?_ _;go_wp2;go_end0;have au:ja'≠none:=fun e=>by have:=(L e).2.1;simp at this
 have bj:=A.set 7 (.slice (adr ja') (f.length+1) (f.length+1+jj'.length));have bo:Frm (fun k=>k=P\/l=some k) w t:=(Frm.aa z).next M fun x _ h=>.inr h;have RQ:Frm (fun k=>k=P\/l=some k) w1 t:=(Frm.aa c9).next M fun x _ h=>.inr h;have S4:∀g,ja'=some g->g≠P:=fun g e e'=>by
  subst e';rcases(v g e).2 with h | h
  ·exact Z h
  ·have:=z.size;omega
 refine⟨rfl,x',ja',jj',bj,fun g e=>⟨((v g e).1).set_ne _ (S4 g e),?_⟩,au,h3,⟨w1,RL,RQ.put _ _ fun _=>.inl rfl⟩,bo.put _ _ fun _=>.inl rfl⟩;rcases(v g e).2 with h | h
 ·exact .inl h
 ·exact .inr (lT z.size h)
