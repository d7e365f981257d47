import Derived.Test.YtmpagpeenjddgaaGreatHq44
import Derived.Test.YtmpagpeenjddgaaGreatHq45
set_option maxHeartbeats 9999999
set_option maxRecDepth 99999
set_option linter.all false
namespace Go.Proofs.YtmpagpeenjddgaaGreat
open Go.RowKit Go.Shelf Fo
variable{e:Ending}{n:Int}{l:List Int}{ops:List TO}{w w':World}{f:fZ}
def trC(n:Int)(ops:List TO):Int:=if inB n 8 512=false then 1 else if 2000<ops.length then 4 else 0
def trF(n:Int)(ops:List TO):fZ:=gZ (aH n.toNat) ops
def trA(n:Int)(ops:List TO):List An:=if trC n ops=0 then fF (aH n.toNat) ops else []
theorem jV(n:Int)(a:List TO):(trC n a=1/\inB n 8 512=false)\/(trC n a=4/\inB n 8 512=true/\2000<a.length)\/(trC n a=0/\inB n 8 512=true/\a.length<=2000):=by
 unfold trC;cases h:inB n 8 512 with
 | false=>exact .inl ⟨by simp,rfl⟩
 | true=>
  by_cases b:2000<a.length
  ·exact .inr (.inl ⟨by simp[b],rfl,b⟩)
  ·exact .inr (.inr ⟨by simp[b],rfl,by omega⟩)
theorem RuP.all(h:RuP w n ops e w'):∃X u,e=.returned (.tuple #[.agg X,u,.int .i64 (trC n ops)])/\X.size=7/\X.all (·.oneCell')=true/\yA.Own w.heap.size w' u (trA n ops)/\Bl w w'/\(trC n ops=0->∃A,X=aL A (trF n ops)/\SpV w' A (trF n ops)/\∃a k c,A.tv=.slice a k c):=by
 rcases jV n ops with⟨b,d⟩ | ⟨b,d,f⟩ | ⟨b,d,f⟩
 ·refine⟨z7,.slice none 0 0,by rw[b];exact h.dev d,rfl,by simp[z7,Value.oneCell'],?_,h.bb,fun q=>absurd (b.symm.trans q) (by omega)⟩
  unfold trA;rw[if_neg (by omega)];exact Ely.Own.nil _ _
 ·refine⟨z7,.slice none 0 0,by rw[b];exact h.lim d f,rfl,by simp[z7,Value.oneCell'],?_,h.bb,fun q=>absurd (b.symm.trans q) (by omega)⟩
  unfold trA;rw[if_neg (by omega)];exact Ely.Own.nil _ _
 ·obtain⟨A,u,i,g,ht,j⟩:=h.ok d f
  refine⟨_,u,by rw[b];exact i,dC _ _,dS g ht,?_,h.bb,fun _=>⟨A,rfl,g,ht⟩⟩;unfold trA;rw[if_pos b];exact j
theorem pT(h:trC n ops=0):aDH (aH n.toNat) (trF n ops):=by
 rcases jV n ops with⟨b,a⟩ | ⟨b,a,c⟩ | ⟨b,a,c⟩
 ·omega
 ·omega
 ·have d:8<=n/\n<=512:=by unfold inB at a;simpa using a
  exact lC (Inv.fresh (n:=n.toNat) (by omega) (by omega)) (pD _) ops
theorem qX(n:Int)(b:List TO)(v:Value)(w:World)(r:yO.Sl w v b)(B:b.length<=1048576):Calls Tryz.prog 6 #[.int .i64 n,v] w fun e w'=>∃u,e=.returned (.tuple #[u,.int .i64 (trC n b)])/\yA.Own w.heap.size w' u (trA n b)/\Bl w w':=by
 obtain⟨c,j⟩:=eZ (trC n b);have l:=aA (vR n b v w r B);have f:=aA (fun e w' (h:RuP w n b e w')=>h.all);rw[j]at f;rw[j];clear r j;go_enter Tryz.func6,Tryz.ntmps6;go_upto_region 1 with fail
 refine wp_region_list ?_;refine wpList_plain rfl (fun K2 a=>?_);go_simp;refine a _ _ ?_;clear a K2;refine wpList_plain rfl (fun K2 a=>?_);go_simp;refine a _ _ ?_;clear a K2;refine wpList_plain rfl (fun K2 a=>?_);go_simp;refine l.out.mono ?_;intro e w1 q;obtain⟨X,u,rfl,m,A,p,o,_⟩:=f.out e w1 q;refine a _ _ ?_;clear a K2 q f l;obtain⟨x,D⟩:=eZ (w1.heap.size);obtain⟨F,i⟩:=eZ (w1.alloc (.cells #[.int .i64 0,.slice none 0 0,.slice none 0 0,.int .i64 0,.int .i64 0,.slice none 0 0,.slice none 0 0] 58));have g:=bAl i;have s:=iNw i D;refine wpList_plain rfl (fun K2 a=>?_);go_simp;refine a _ _ ?_;clear a K2;refine wpList_plain rfl (fun K2 a=>?_);go_simp;refine a _ _ ?_;clear a K2;refine wpList_plain rfl (fun K2 a=>?_);go_simp;refine a _ _ ?_;clear a K2;refine wpList_plain rfl (fun K2 a=>?_);go_simp;refine a _ _ ?_;clear a K2;refine wpList_plain rfl (fun K2 a=>?_);go_simp;refine a _ _ ?_;clear a K2;refine wpList_plain rfl (fun K2 a=>?_);refine aK _ _ _ rfl x s rfl rfl m (by rw[m];kernel_rfl) A fun E C t=>?_;refine a _ _ ?_;clear a K2;have d:Bl w1 E:=g.trans (t.below g.size fun k e=>by omega);have z:=aA (p.below d);have y:=aA (o.trans (d.mono o.size));clear p t C s g d i;refine wpList_plain rfl (fun K2 a=>?_);go_simp;refine a _ _ ?_;clear a K2;refine wpList_plain rfl (fun K2 a=>?_);go_simp;refine a _ _ ?_;clear a K2;refine wpList_nil ?_;go_wp2;refine bodyPost_ret (v:=.tuple #[u,.int .i64 c]) (by simp[results,Tryz.results6,go_sem]) rfl ?_;exact⟨u,rfl,z.out,y.out⟩
theorem aKS.all(h:aKS w n ops e w'):∃p u,e=.returned (.tuple #[.pointer p,u,.int .i64 (trC n ops)])/\yA.Own w.heap.size w' u (trA n ops)/\Bl w w'/\(trC n ops=0->∃P ρ A J,p=some ⟨P,0,none⟩/\St w' ρ P A (trF n ops) J/\∀x,x<w.heap.size->ρ x=0):=by
 rcases jV n ops with⟨a,b⟩ | ⟨a,b,c⟩ | ⟨a,b,c⟩
 ·refine⟨none,.slice none 0 0,by rw[a];exact h.dev b,?_,h.bb,fun q=>absurd (a.symm.trans q) (by omega)⟩
  unfold trA;rw[if_neg (by omega)];exact Ely.Own.nil _ _
 ·refine⟨none,.slice none 0 0,by rw[a];exact h.lim b c,?_,h.bb,fun q=>absurd (a.symm.trans q) (by omega)⟩
  unfold trA;rw[if_neg (by omega)];exact Ely.Own.nil _ _
 ·obtain⟨P,ga,ρ,A,J,j,i,k,f,l,d⟩:=h.ok b c
  refine⟨some ⟨P,0,none⟩,_,by rw[a];exact j,?_,h.bb,fun _=>⟨P,ρ,A,J,rfl,i,k⟩⟩;unfold trA;rw[if_pos a];refine⟨some ga,[],?_,⟨fun g e=>?_,fun e=>(by cases e),?_⟩,fun g e=>?_⟩
  ·rw[gS];rfl
  ·cases e;rw[List.append_nil];exact f
  ·rw[gS];simp[maxLen];omega
  ·cases e;exact d
theorem aAC{g:Nat}{j:List Int}{cap:Nat}(h:IsC w g (y64.row (l++j)) 2)(b:∀i,0<=l.getD i 0/\l.getD i 0<=65535):bH g (g+1) w (.slice (some ⟨g,0,none⟩) l.length cap) l:=
 ⟨fun i=>by have:=b i;omega,_,_,rfl,fun _=>⟨g,0,rfl,nR _,by omega,h.lt,fun i a=>⟨by rw[Nat.zero_add];exact jN h a,by rw[Nat.zero_add];exact h.frozen i⟩⟩⟩
theorem vW{base:Nat}{u:Value}(h:y64.Own base w u l)(d:0<l.length)(k:∀i,0<=l.getD i 0/\l.getD i 0<=65535):∃g c,u=.slice (some ⟨g,0,none⟩) l.length c/\base<=g/\g<w.heap.size/\bH g (g+1) w (.slice (some ⟨g,0,none⟩) l.length c) l:=by
 obtain⟨a,f,e,b,j⟩:=h;cases a with
 | none=>have:=(b.nil rfl).1;rw[this]at d;simp at d
 | some g=>exact⟨g,_,e,j g rfl,(b.arr g rfl).lt,aAC (b.arr g rfl) k⟩
def tcU(n:Int)(ops:List TO):List Int:=if trC n ops=0 then(trF n ops).c else []
def tcM(n:Int)(ops:List TO):List Int:=if trC n ops=0 then(trF n ops).m else []
structure TcP(w:World)(n:Int)(ops:List TO)(e:Ending)(w':World):Prop where
 ex:∃a0 c0 a1 c1 l0 h0 l1 h1,e=.returned (.tuple #[.slice a0 (tcU n ops).length c0,.slice a1 (tcM n ops).length c1,.int .i64 (trC n ops)])/\w.heap.size<=l0/\h0<=w'.heap.size/\w.heap.size<=l1/\h1<=w'.heap.size/\(h0<=l1\/h1<=l0)/\bH l0 h0 w' (.slice a0 (tcU n ops).length c0) (tcU n ops)/\bH l1 h1 w' (.slice a1 (tcM n ops).length c1) (tcM n ops)/\Bl w w'
theorem TcP.bad(h:trC n ops≠0)(a:Bl w w'):TcP w n ops (.returned (.tuple #[.slice none 0 0,.slice none 0 0,.int .i64 (trC n ops)])) w':=by
 have b:tcU n ops=[]:=by unfold tcU;rw[if_neg h]
 have c:tcM n ops=[]:=by unfold tcM;rw[if_neg h]
 refine⟨none,0,none,0,w.heap.size,w.heap.size,w.heap.size,w.heap.size,by rw[b,c];rfl,nR _,a.size,nR _,a.size,.inl (nR _),?_,?_,a⟩
 ·rw[b];exact bH.empty _ _ _ _ _
 ·rw[c];exact bH.empty _ _ _ _ _
theorem TcP.good(h:trC n ops=0)(c:Bl w w'){g0 g1 c0 c1:Nat}(f:w.heap.size<=g0)(d:w.heap.size<=g1)(j:g0<w'.heap.size)(i:g1<w'.heap.size)(g:g0≠g1)(o0:bH g0 (g0+1) w' (.slice (some ⟨g0,0,none⟩) (trF n ops).c.length c0) (trF n ops).c)(e:bH g1 (g1+1) w' (.slice (some ⟨g1,0,none⟩) (trF n ops).m.length c1) (trF n ops).m):
  TcP w n ops (.returned (.tuple #[.slice (some ⟨g0,0,none⟩) (trF n ops).c.length c0,.slice (some ⟨g1,0,none⟩) (trF n ops).m.length c1,.int .i64 0])) w':=by
 have a:tcU n ops=(trF n ops).c:=by unfold tcU;rw[if_pos h]
 have b:tcM n ops=(trF n ops).m:=by unfold tcM;rw[if_pos h]
 refine⟨some ⟨g0,0,none⟩,c0,some ⟨g1,0,none⟩,c1,g0,g0+1,g1,g1+1,by rw[a,b,h],f,by omega,d,by omega,by omega,by rw[a];exact o0,by rw[b];exact e,c⟩
theorem yY(h:Inv f)(i:Nat):0<=f.c.getD i 0/\f.c.getD i 0<=65535:=by have:=h.counts i;unfold cu at this;omega
theorem yQ(h:Inv f)(i:Nat):0<=f.m.getD i 0/\f.m.getD i 0<=65535:=by have:=h.dd i;unfold co at this;omega
theorem iS(n:Int)(a:List TO)(v:Value)(w:World)(G:yO.Sl w v a)(F:a.length<=1048576):Calls Tryz.prog 8 #[.int .i64 n,v] w (TcP w n a):=by
 go_enter Tryz.func8,Tryz.ntmps8
 go_wp2_with fail
 refine(aDU n a v w G F).mono ?_;intro e w1 y;obtain⟨p,u,rfl,_,m,r⟩:=y.all;clear y;by_cases b:trC n a=0
 ·obtain⟨P,ρ,A,J,rfl,l,z⟩:=r b
  obtain⟨_,_,_,h,_⟩:=id l;obtain⟨K,H,I,L⟩:=h.cells;have o:=pT b;have k:w.heap.size<=A.c/\w.heap.size<=A.d/\A.c≠A.d:=by
   have t:=h.rc;have x:=h.rd;refine⟨Nat.le_of_not_lt fun q=>?_,Nat.le_of_not_lt fun q=>?_,fun q=>?_⟩
   ·rw[z _ q]at t;omega
   ·rw[z _ q]at x;omega
   ·rw[q,x]at t;omega
  have D:Hid (∀w':World,Bl w1 w'->TcP w n a (.returned (.tuple #[.slice (some ⟨A.c,0,none⟩) (trF n a).c.length (trF n a).c.length,.slice (some ⟨A.d,0,none⟩) (trF n a).m.length ((trF n a).m.length+A.dj.length),.int .i64 0])) w'):=fun w' B=>by
   have C:=l.below B;obtain⟨_,_,_,g,_⟩:=C;refine TcP.good b (m.trans (B.mono m.size)) k.1 k.2.1 g.hc.lt g.hd.lt k.2.2 (aAC (j:=[]) (by rw[List.append_nil,aEQ];exact g.hc) (yY o.inv)) ⟨fun i=>by have:=yQ o.inv i;omega,_,_,rfl,fun _=>⟨A.d,0,rfl,nR _,by omega,g.hd.lt,fun i E=>⟨?_,g.hd.frozen _⟩⟩⟩;rw[Nat.zero_add,g.hd.cell];simp[jJ,List.getElem?_append,E]
  obtain⟨c,d⟩:=eZ (trC n a);rw[d]at b;rw[d];subst b;generalize trF n a=f at *;clear d r h l o k;go_wp2;go_region_held3 (fun w'=>w'.cell? ⟨P,4,none⟩=some (.slice (some ⟨A.c,0,none⟩) f.c.length f.c.length)/\w'.cell? ⟨P,5,none⟩=some (.slice (some ⟨A.d,0,none⟩) f.m.length (f.m.length+A.dj.length))) (first | go_keep | exact⟨H,I⟩) (fail);go_wp2;refine bodyPost_ret (v:=.tuple #[.slice (some ⟨A.c,0,none⟩) f.c.length f.c.length,.slice (some ⟨A.d,0,none⟩) f.m.length (f.m.length+A.dj.length),.int .i64 0]) (by simp[results,Tryz.results8,go_sem]) rfl ?_;exact D.out _ (bQ _ _).drew
 ·have s:=aA (TcP.bad b m)
  obtain⟨c,d⟩:=eZ (trC n a);rw[d]at b s;rw[d];clear d r;go_wp2;refine bodyPost_ret (v:=.tuple #[.slice none 0 0,.slice none 0 0,.int .i64 c]) (by simp[results,Tryz.results8,go_sem]) rfl ?_;exact s.out
theorem nC(n:Int)(g:List TO)(v:Value)(w:World)(hv:yO.Sl w v g)(hl:g.length<=1048576):Calls Tryz.prog 13 #[.int .i64 n,v] w (TcP w n g):=by
 obtain⟨c,H⟩:=eZ (trC n g);have N:=aA (vR n g v w hv hl);have C:=aA (fun e w' (h:RuP w n g e w')=>h.all);have D:=aA (fun(h:trC n g≠0) (w':World) (G:Bl w w')=>TcP.bad h G);have M:=aA H;rw[H]at C D;clear hv H;go_enter Tryz.func13,Tryz.ntmps13;go_upto_region 1 with fail
 refine wp_region_list ?_;refine wpList_plain rfl (fun K2 a=>?_);go_simp;refine a _ _ ?_;clear a K2;refine wpList_plain rfl (fun K2 a=>?_);go_simp;refine a _ _ ?_;clear a K2;refine wpList_plain rfl (fun K2 a=>?_);go_simp;refine N.out.mono ?_;intro e w1 V;obtain⟨X,u,rfl,P,dm,_,S,I⟩:=C.out e w1 V;refine a _ _ ?_;clear a K2 V C N;obtain⟨j,EF⟩:=eZ (w1.heap.size);obtain⟨w2,F⟩:=eZ (w1.alloc (.cells #[.int .i64 0,.slice none 0 0,.slice none 0 0,.int .i64 0,.int .i64 0,.slice none 0 0,.slice none 0 0] 58));have E:=bAl F;have i7:=iNw F EF;refine wpList_plain rfl (fun K2 a=>?_);go_simp;refine a _ _ ?_;clear a K2;refine wpList_plain rfl (fun K2 a=>?_);go_simp;refine a _ _ ?_;clear a K2;refine wpList_plain rfl (fun K2 a=>?_);go_simp;refine a _ _ ?_;clear a K2;refine wpList_plain rfl (fun K2 a=>?_);go_simp;refine a _ _ ?_;clear a K2;refine wpList_plain rfl (fun K2 a=>?_);go_simp;refine a _ _ ?_;clear a K2;refine wpList_plain rfl (fun K2 a=>?_);refine aK _ _ _ rfl j i7 rfl rfl P (by rw[P];kernel_rfl) dm fun p j7 jF=>?_;refine a _ _ ?_;clear a K2;have L:Bl w1 p:=E.trans (jF.below E.size fun k e=>by omega);have o:=S.trans (L.mono S.size);have HJ:=aA j7;clear jF j7 i7 E F;refine wpList_plain rfl (fun K2 a=>?_);go_simp;refine a _ _ ?_;clear a K2;refine wpList_plain rfl (fun K2 a=>?_);go_simp;refine a _ _ ?_;clear a K2;refine wpList_nil ?_;by_cases T:c=0
 ·subst T
  obtain⟨A,Y,R,jl⟩:=I rfl;have j8:Sp p j A (trF n g):=⟨by rw[<-Y];exact HJ.out,R.below L⟩;have Z:=pT M.out;have l:=Z.inv;have h8:=l.ic.n8;have U:=l.ic.al;have DX:=l.ic.len;obtain⟨ma,mc,J⟩:=j8.v.m.len;have Om:=aA fun(w':World) (G:Bl w w') (g0 g1 c0 c1:Nat) h1 h2 h3 h4 U h6 h7=>TcP.good (w:=w) (w':=w') (g0:=g0) (g1:=g1) (c0:=c0) (c1:=c1) M.out G h1 h2 h3 h4 U h6 h7;have q:Sp p.drew j A (trF n g):=j8.below (bQ _ _).drew;have Ps:=aA fun(W:World) (r:Sp W j A (trF n g))=>fW l.ic (fun x=>by have:=l.counts x;omega) (fun b d hd=>by have:=l.ai hd;omega) W j A r (by have:=l.bq;omega);have O:=aA fun(W:World) (r:Sp W j A (trF n g))=>sT A.cv (trF n g).m W r.v.m (by omega);have WF:Hid (0 <(trF n g).m.length):=(show 0 <(trF n g).m.length by omega);have Vt:=aA (yY l);have ME:=aA (yQ l);generalize trF n g=f at *;rw[J]at O;have Ct:∀W,Sp W j A f->W.cell? ⟨j,5,none⟩=some (.slice ma f.m.length mc):=fun W r=>by rw[<-J];exact r.cells.2.2.2.2.2.1
  clear J Z Y R I DX;go_upto_region 4 with fail
  refine qK (fun W=>Sp W j A f) 7 (by kernel_rfl) ?_;refine eH (i:=1) 21 (.pointer (some ⟨j,5,none⟩)) (by kernel_rfl) (by kernel_rfl) rfl (by kernel_rfl) (by kernel_rfl) (by kernel_rfl) (fun _ _ _ h=>h) rfl rfl q (fun w' s=>by go_simp;try rfl) ?_;simp only[Act.put,sB,sZ,sS];refine eH (i:=2) 22 (.slice ma f.m.length mc) (by kernel_rfl) (by kernel_rfl) rfl (by kernel_rfl) (by kernel_rfl) (by kernel_rfl) (fun _ _ _ h=>h) rfl rfl q (fun w' s=>by have m:=Ct w' s;go_simp;try rfl) ?_;simp only[Act.put,sB,sZ,sS];refine gF (i:=0) (by kernel_rfl) rfl rfl (fun K2 a=>?_);go_simp;refine(Ps.out p.drew q).mono ?_;rintro e w4 ⟨u0,rfl,Q,B⟩;have y:=q.below B;refine a _ _ (fun _=>y) ?_;clear a K2;refine gF (i:=3) (by kernel_rfl) rfl rfl (fun K2 a=>?_);go_simp;refine(O.out w4 y).mono ?_;rintro e w5 ⟨u1,rfl,K,z⟩;have t:=y.below z;refine a _ _ (fun _=>t) ?_;clear a K2;obtain⟨g0,c0,rfl,q1,q2,q3⟩:=vW Q (by omega) Vt.out;obtain⟨g1,c1,rfl,r1,r2,r3⟩:=vW K WF.out ME.out;have XW:Bl w w5:=(o.trans ((bQ _ p).drew.mono o.size)).trans ((B.trans (z.mono B.size)).mono o.size);have HF:=aA (Om.out w5 XW g0 g1 c0 c1 (lT o.size q1) (lT o.size (lT B.size r1)) (lL q2 z.size) r2 (by omega) (q3.below z) r3);refine eH (i:=4) 4 (.slice (some ⟨g0,0,none⟩) f.c.length c0) (by kernel_rfl) (by kernel_rfl) rfl (by kernel_rfl) (by kernel_rfl) (by kernel_rfl) (fun _ _ _ h=>h) rfl rfl t (fun w' s=>by go_simp;try rfl) ?_;simp only[Act.put,sB,sZ,sS];refine eH (i:=5) 5 (.slice (some ⟨g1,0,none⟩) f.m.length c1) (by kernel_rfl) (by kernel_rfl) rfl (by kernel_rfl) (by kernel_rfl) (by kernel_rfl) (fun _ _ _ h=>h) rfl rfl t (fun w' s=>by go_simp;try rfl) ?_;simp only[Act.put,sB,sZ,sS];refine eH (i:=6) 6 (.int .i64 0) (by kernel_rfl) (by kernel_rfl) rfl (by kernel_rfl) (by kernel_rfl) (by kernel_rfl) (fun _ _ _ h=>h) rfl rfl t (fun w' s=>by go_simp;try rfl) ?_;simp only[Act.put,sB,sZ,sS];refine qJ (by kernel_rfl) ?_ _;clear q y t Q K q3 r3;go_wp2;refine bodyPost_ret (v:=.tuple #[.slice (some ⟨g0,0,none⟩) f.c.length c0,.slice (some ⟨g1,0,none⟩) f.m.length c1,.int .i64 0]) (by simp[results,Tryz.results13,go_sem]) rfl ?_;exact HF.out
 ·have HB:=aA (D.out T p o)
  clear D I;go_wp2;refine bodyPost_ret (v:=.tuple #[.slice none 0 0,.slice none 0 0,.int .i64 c]) (by simp[results,Tryz.results13,go_sem]) rfl ?_;exact HB.out
end Go.Proofs.YtmpagpeenjddgaaGreat
namespace Go.Proofs.YtmpagpeenjddgaaGreat
open Go.RowKit Fo
abbrev s98:ByteArray:={data:=#[48,49,50,51,52,53,54,55,56,57,97]}
abbrev s99:ByteArray:={data:=#[48,49,50,51,52,53,54,55,56,57]}
def opT(zs:List Int)(p:St2)(ids:Int):Int:=if nxV zs (nxS zs (nxS zs p)) 40=0 then ids else if 0<nxV zs (nxS zs p) 3 then 0 else nxV zs p ids
def opB(zs:List Int)(way ids:Int)(l:List TO)(p:St2)(k tree:Int)(key val:ByteArray):TO×St2×Int:=
 if 55<=k/\k<75\/100<=k then
  (if nxV zs p 2=0/\0<l.length then((2,tree,(l.getD (nxV zs (nxS zs p) l.length).toNat yO.z).2.2.1,val),nxS zs (nxS zs p),ids)else((2,tree,key,val),nxS zs p,ids))
 else if 75<=k/\k<81\/way=2/\k<12/\0<k then((3,tree,key,val),p,ids+1)
 else if 81<=k/\k<84 then((4,nxV zs p ids,key,val),nxS zs p,ids)
 else if 84<=k/\k<91 then((5,tree,key,val),p,ids)
 else if 91<=k/\k<97 then
  (if 0<l.length then((6,tree,(l.getD (nxV zs p l.length).toNat yO.z).2.2.1,val),nxS zs p,ids)else((6,tree,key,val),p,ids))
 else if k=97 then((nxV zs p 10-2,tree,key,val),nxS zs p,ids)
 else if k=98 then((1,tree,key++s98,val),p,ids)
 else if k=99 then((1,tree,key,s99++val.extract 0 (nxV zs p 2).toNat),nxS zs p,ids)
 else((1,tree,key,val),p,ids)
def aFY(way k:Int):Int:=if way=1/\k<70 then 0 else k
def opY(way k i:Int)(key:ByteArray):ByteArray:=if way=1/\k<70 then ris i else key
def aFZ(way n i k:Int):Int:=if way=3/\n / 2<i then k+30 else k
def aOM(zs:List Int)(way:Int)(n:Nat)(ids:Int)(l:List TO)(tree k0:Int)(p5:St2)(key:ByteArray):TO×St2×Int:=
 opB zs way ids l (nxS zs p5) (aFZ way n l.length (aFY way k0)) tree (opY way k0 l.length key) (txB [65+nxV zs p5 26,97+(l.length:Int) % 26])
def opR(zs:List Int)(way:Int)(n:Nat)(ids:Int)(l:List TO)(p:St2):TO×St2×Int:=
 aOM zs way n ids l (opT zs p ids) (nxV zs (nxS zs (nxS zs (nxS zs p))) 100) (dkR zs (nxS zs (nxS zs (nxS zs (nxS zs p))))).2 (dkR zs (nxS zs (nxS zs (nxS zs (nxS zs p))))).1
def zC(zs:List Int)(way:Int)(n:Nat):Nat->Int->List TO->St2->List TO×St2
 | 0,_,l,p=>(l,p)
 | m+1,ids,l,p=>zC zs way n m (opR zs way n ids l p).2.2 (l++[(opR zs way n ids l p).1]) (opR zs way n ids l p).2.1
def doR(zs:List Int)(p:St2)(mx:Int):List TO×St2:=zC zs (nxV zs (nxS zs p) 4) (4+nxV zs p mx).toNat (4+nxV zs p mx).toNat 1 [] (nxS zs (nxS zs p))
structure DoB(base g:Nat)(a:Option Addr)(c:Nat)(zs:List Int)(w:World)(B0:Nat)(ra:Option Nat)(l junk:List TO)(p:St2)(o:TO)(wx:World):Prop where
 src:dP base g a c zs p wx
 row:yO.Rw wx ra l junk
 box:IsC wx B0 (yM o).toArray 33
 ae:Frm (·=g) w wx
 gl:g<w.heap.size
 b0:w.heap.size<=B0
 ne:∀r,ra=some r->w.heap.size<=r/\r≠B0
section
variable {base g : Nat} {a : Option Addr} {c : Nat} {zs : List Int} {w : World} {B0 : Nat} {ra : Option Nat} {l junk : List TO} {p : St2} {o : TO} {wx : World}
theorem DoB.next(h:DoB base g a c zs w B0 ra l junk p o wx){p':St2}{wy:World}(d:dP base g a c zs p' wy)(b:Frm (·=g) wx wy):DoB base g a c zs w B0 ra l junk p' o wy:=
 ⟨d,h.row.ae b fun r e q=>by have:=(h.ne r e).1;have:=h.gl;omega,h.box.ae b fun q=>by have:=h.b0;have:=h.gl;omega,h.ae.trans b,h.gl,h.b0,h.ne⟩
theorem DoB.bp(h:DoB base g a c zs w B0 ra l junk p o wx){wy:World}(b:Bl wx wy):DoB base g a c zs w B0 ra l junk p o wy:=h.next (h.src.below b) (Frm.aa b)
theorem DoB.put(h:DoB base g a c zs w B0 ra l junk p o wx)(j:Nat)(v:Value)(f:TO)(e:((yM o).toArray).setIfInBounds j v=(yM f).toArray):DoB base g a c zs w B0 ra l junk p f (wx.setCell ⟨B0,j,none⟩ v):=by
 have i:=h.b0;have m:=h.gl;have n:=h.src.lo;have d:Frm (·=B0) wx (wx.setCell ⟨B0,j,none⟩ v):=Frm.set (S:=(·=B0)) wx (p:=⟨B0,j,none⟩) rfl v;refine⟨h.src.ae d (by omega) fun b e=>by omega,h.row.ae d fun r q=>(h.ne r q).2,?_,?_,m,i,h.ne⟩
 ·rw[<-e];exact h.box.set j v
 ·exact((h.ae.wide (S':=fun k=>k=g\/k=B0) fun k _ q=>.inl q).trans (d.wide fun k _ q=>.inr q)).wide fun k s q=>q.elim id fun q=>by omega
theorem DoB.cells(h:DoB base g a c zs w B0 ra l junk p o wx):wx.cell? ⟨B0,0,none⟩=some (.int .i64 o.1)/\wx.cell? ⟨B0,1,none⟩=some (.int .i64 o.2.1)/\wx.cell? ⟨B0,2,none⟩=some (.string o.2.2.1)/\wx.cell? ⟨B0,3,none⟩=some (.string o.2.2.2)/\wx.frozen? ⟨B0,0,none⟩=false/\wx.frozen? ⟨B0,1,none⟩=false/\wx.frozen? ⟨B0,2,none⟩=false/\wx.frozen? ⟨B0,3,none⟩=false:=
 ⟨h.box.cell 0,h.box.cell 1,h.box.cell 2,h.box.cell 3,h.box.frozen 0,h.box.frozen 1,h.box.frozen 2,h.box.frozen 3⟩
theorem toHid'{p:Prop}(h:p):Hid p:=h
theorem DoB.key(h:DoB base g a c zs w B0 ra l junk p o wx)(f:0<l.length){j:Nat}(e:j<l.length):∃r,adr ra=some ⟨r,0,none⟩/\wx.cell? ⟨r,j*4+2,none⟩=some (.string (l.getD j yO.z).2.2.1):=by
 cases ra with
 | none=>have:=(h.row.nil rfl).1;subst this;simp at f
 | some r=>
  refine⟨r,rfl,?_⟩;rw[(h.row.arr r rfl).cell];have b:=yO.at (l++junk) (i:=j) (j:=2) (by simp;omega) (by decide);have d:(l++junk).getD j yO.z=l.getD j yO.z:=by simp[gD,List.getElem?_append_left e]
  rw[d]at b;exact b
end
end Go.Proofs.YtmpagpeenjddgaaGreat
namespace Go.Proofs.YtmpagpeenjddgaaGreat
open Go.RowKit Go.Shelf Fo
variable{n tree:Int}{ops:List TO}{t:Nat}{w w':World}
def tsC(n:Int)(ops:List TO)(tree:Int):Int:=if trC n ops=0 then(match atT (trF n ops) tree with | none=>8 | some _=>0)else trC n ops
def tsV(n:Int)(ops:List TO)(tree:Int):List VW:=if trC n ops=0 then(match atT (trF n ops) tree with | none=>[] | some t=>shp (trF n ops) (aB (trF n ops) t))else []
theorem aNX(tree:Int)(h:trC n ops≠0):tsC n ops tree=trC n ops/\tsV n ops tree=[]:=by
 unfold tsC tsV;rw[if_neg h,if_neg h];exact⟨rfl,rfl⟩
theorem aMK(h:trC n ops=0)(a:atT (trF n ops) tree=none):tsC n ops tree=8/\tsV n ops tree=[]:=by
 unfold tsC tsV;rw[if_pos h,if_pos h,a];exact⟨rfl,rfl⟩
theorem aEP(h:trC n ops=0)(a:atT (trF n ops) tree=some t):tsC n ops tree=0/\tsV n ops tree=shp (trF n ops) (aB (trF n ops) t):=by
 unfold tsC tsV;rw[if_pos h,if_pos h,a];exact⟨rfl,rfl⟩
def TsP(w:World)(n:Int)(ops:List TO)(tree:Int)(e:Ending)(w':World):Prop:=∃u,e=.returned (.tuple #[u,.int .i64 (tsC n ops tree)])/\yW.Own w.heap.size w' u (tsV n ops tree)/\Bl w w'
theorem TsP.bad(tree:Int)(h:trC n ops≠0)(c:Bl w w'):TsP w n ops tree (.returned (.tuple #[.slice none 0 0,.int .i64 (trC n ops)])) w':=by
 obtain⟨a,b⟩:=aNX tree h;exact⟨_,by rw[a],by rw[b];exact Ely.Own.nil _ _,c⟩
theorem TsP.none(h:trC n ops=0)(c:atT (trF n ops) tree=none)(d:Bl w w'):TsP w n ops tree (.returned (.tuple #[.slice none 0 0,.int .i64 8])) w':=by
 obtain⟨a,b⟩:=aMK h c;exact⟨_,by rw[a],by rw[b];exact Ely.Own.nil _ _,d⟩
theorem aJQ{f:fZ}(a:Inv f)(ht:t<f.r.length):2<=aB f t/\aB f t<512:=by
 obtain⟨h,c,_⟩:=a.ok t ht;have:∃d,f.n (aB f t)=some d:=by
  cases h with
  | zero=>obtain⟨es,q,_⟩:=c;exact⟨_,q⟩
  | succ h=>obtain⟨es,q,_⟩:=c;exact⟨_,q⟩
 obtain⟨d,b⟩:=this;have e:=a.ic.dx b;have g:=a.ic.lt b;have i:=a.ic.al;omega
theorem nY(n:Int)(a:List TO)(v:Value)(tree:Int)(w:World)(X:yO.Sl w v a)(U:a.length<=1048576):Calls Tryz.prog 10 #[.int .i64 n,v,.int .i64 tree] w (TsP w n a tree):=by
 go_enter Tryz.func10,Tryz.ntmps10
 go_wp2_with fail
 refine(aDU n a v w X U).mono ?_;intro e w1 L;obtain⟨p,u,rfl,_,l,E⟩:=L.all;clear L;by_cases g:trC n a=0
 ·obtain⟨P,ρ,A,J,rfl,D,W⟩:=E g
  have i:=pT g;have d:=i.inv;have y:=aA fun(w':World) (b:atT (trF n a) tree=none) l=>TsP.none (w:=w) (w':=w') g b l;have z:=aA fun(t:Nat) (b:atT (trF n a) tree=some t)=>aEP g b;obtain⟨c,j⟩:=eZ (trC n a);rw[j]at g;rw[j];subst g;generalize trF n a=f at *;have x:=d.sz;clear j E i W;go_wp2_with fail;refine(aGI w1 ρ P A f J tree D d x).mono ?_;rintro e G ⟨rfl,B⟩;have s:=D.below B;have m:=l.trans (B.mono l.size);clear D B l;cases b:atT f tree with
  | none=>
   rw[wA b];have R:=aA (y.out G b m);clear s m y z d x;go_wp2;refine bodyPost_ret (v:=.tuple #[.slice none 0 0,.int .i64 8]) (by simp[results,Tryz.results10,go_sem]) rfl ?_;exact R.out
  | some t=>
   rw[wB b];obtain⟨ht,_⟩:=mO b;obtain⟨h,i,T⟩:=d.ok t ht;obtain⟨O,Z,q3⟩:=xW d.ic i T;have ws:=aJQ d ht;have Y:¬((aB f t:Int)=0):=by omega
   obtain⟨Q,F⟩:=z.out t b;rw[O]at F;obtain⟨_,_,_,M,_⟩:=id s;have C:=nJ d.ic x ρ P A J G.heap.size (fun k i=>Nat.eq_zero_of_not_pos fun q=>absurd (M.own k (by omega)) (by omega)) h (aB f t) none none 0 G none 0 [] i s (nR _) (Ely.Own.nil _ _) (by simp;omega) (Int.le_refl _) (by omega);simp only[List.length_nil,List.nil_append]at C;have I:=aA C;have H:=aA (aI Q F);clear C Q F M s d x z y i O;generalize cK f h (aB f t) 0=V at *;generalize aB f t=r at *;go_wp2_with fail;refine I.out.mono ?_;rintro e w3 ⟨⟨u3,rfl,N⟩,K⟩;have S:=aA (N.base m.size);have o:=aA (m.trans ((K.below (nR _) fun k e=>e.1).mono m.size));clear N K I;go_wp2;refine bodyPost_ret (v:=.tuple #[u3,.int .i64 0]) (by simp[results,Tryz.results10,go_sem]) rfl ?_;exact⟨u3,by rw[H.out.1],by rw[H.out.2];exact S.out,o.out⟩
 ·have o:=aA (TsP.bad tree g l)
  obtain⟨c,j⟩:=eZ (trC n a);rw[j]at g o;rw[j];clear j E;go_wp2;refine bodyPost_ret (v:=.tuple #[.slice none 0 0,.int .i64 c]) (by simp[results,Tryz.results10,go_sem]) rfl ?_;exact o.out
end Go.Proofs.YtmpagpeenjddgaaGreat
namespace Go.Proofs.YtmpagpeenjddgaaGreat
open Go.RowKit Fo
variable{n:Int}{l:List TO}{k t:Nat}{v:VW}{f:fZ}
theorem zU(l:List TO)(a:List An):∀i,(iY l a i).length<=i+1
 | 0=>by simp[iY]
 | i+1=>by
  have h:=zU l a i;unfold iY xH;split
  ·omega
  ·split
   ·simp;omega
   ·split
    ·exact lT (List.length_filter_le _ _) (by omega)
    ·omega
theorem zG(l:List Int)(t:Int)(a:k<l.length):(l.take (k+1)).filter (fun x=>decide (x≠t))=if l.getD k 0=t then(l.take k).filter (fun x=>decide (x≠t))else(l.take k).filter (fun x=>decide (x≠t))++[l.getD k 0]:=by
 rw[cH l k 0 a,List.filter_append,List.filter_cons,List.filter_nil];generalize l.getD k 0=x;by_cases e:x=t<;>simp[e]
theorem vS(l:List TO)(a:List An)(v u:Value)(n:Nat)(w:World)(hv:yO.Sl w v l)(hu:yA.Sl w u a)(hn:n<=l.length)(hm:n<=a.length)(hl:n<=2000):
  Calls Tryz.prog 15 #[v,u,.int .i64 n] w fun e w'=>∃x,e=.returned x/\y64.Own w.heap.size w' x (iY l a n)/\Bl w w':=by
 have HO:=aA fun(h:0<l.length)=>aER hv h;have HA:=aA fun(h:0<a.length)=>hu.at h;have WB:=aA (zU l a);clear hv hu;go_enter Tryz.func15,Tryz.ntmps15;go_wp2;go_loopw [7,8,9,10] (fun lv i _ _ wr=>∃k:Nat,k<=n/\i=.int .i64 k/\y64.Own w.heap.size wr lv (iY l a k)/\Bl w wr) (fun _ i _ _ _=>n -(intOf i).toNat)
 case atStart=>exact⟨0,Nat.zero_le _,rfl,Ely.Own.one _ _ 0 rfl (nR _) rfl,(bQ _ _).alloc (nR _) _⟩
 case round=>
  obtain⟨k,hk,rfl,s,f⟩:=hrel;by_cases ak:k<n
  ·have kr:(k:Int) <(n:Int):=by omega
   have m0:(k:Int) <(l.length:Int):=by omega
   have Zg:(k:Int) <(a.length:Int):=by omega
   obtain⟨g,o,c,rfl,O,Z⟩:=HO.out (by omega);obtain⟨g',o',c',rfl,P,N⟩:=HA.out (by omega);have K:Hid (∀W,Bl w W->W.cell? ⟨g,o+k*4,none⟩=some (.int .i64 (l.getD k o0).1)/\W.cell? ⟨g,o+k*4+1,none⟩=some (.int .i64 (l.getD k o0).2.1)/\W.cell? ⟨g',o'+k*3,none⟩=some (.int .i64 (a.getD k a0).1)/\W.cell? ⟨g',o'+k*3+1,none⟩=some (.int .i64 (a.getD k a0).2.1)):=fun W J=>by
    obtain⟨q1,q2,_⟩:=Z w k rfl (by omega);exact⟨(J.cell (p:=⟨g,_,none⟩) O).trans q1,(J.cell (p:=⟨g,_,none⟩) O).trans q2,(J.cell (p:=⟨g',_,none⟩) P).trans (N k 0 (by omega) (by decide)),(J.cell (p:=⟨g',_,none⟩) P).trans (N k 1 (by omega) (by decide))⟩
   have q:Hid (iY l a (k+1)=xH (l.getD k o0) (a.getD k a0) (iY l a k)):=rfl;have Ks:(iY l a k).length<1000000:=by have:=WB.out k;omega
   have G:=f.size;obtain⟨Q,R,S,T⟩:=K.out wr f;clear Z N O P;generalize iY l a k=L at *;generalize (l.getD k o0)=op at *;generalize (a.getD k a0)=an at *;obtain⟨kd,d,_,_⟩:=op;obtain⟨Y,vl,_⟩:=an;simp only at Q R S T;by_cases H:Y=0
   case neg=>
    have r:Hid (iY l a (k+1)=L):=q.out.trans (if_pos H);have QS:(Y == 0)=false:=by simpa using H
    clear H q;go_wp2;go_roundw
    case rel=>exact⟨k+1,by omega,by go_num,by rw[r.out];exact s,f⟩
    case measure=>simp[intOf];omega
   subst H;by_cases D:kd=3
   case pos=>
    subst D;have r:Hid (iY l a (k+1)=L++[vl]):=q.out;clear q;go_wp2_with (first | (at_builtin;refine y64.av rfl _ _ rfl s rfl vl rfl rfl Ks G ?_;intro v' w1 B C k3;have z0:=(K.out w1 (f.trans C)).1) | go_in);rw[<-r.out]at B;have z:=aA (f.trans C);go_roundw
    case rel=>exact⟨k+1,by omega,by go_num,B,z.out⟩
    case measure=>simp[intOf];omega
   have O5:(kd == 3)=false:=by simpa using D
   by_cases I:kd=4
   case neg=>
    have r:Hid (iY l a (k+1)=L):=by
     refine q.out.trans ?_;unfold xH;simp only[ne_eq,not_true,if_false];rw[if_neg D,if_neg I]
    have ZQ:(kd == 4)=false:=by simpa using I
    clear D I q;go_wp2;go_roundw
    case rel=>exact⟨k+1,by omega,by go_num,by rw[r.out];exact s,f⟩
    case measure=>simp[intOf];omega
   subst I;have r:Hid (iY l a (k+1)=L.filter fun x=>decide (x≠d)):=q.out;clear q D;obtain⟨b,rfl⟩:∃W1,W1=wr:=⟨_,rfl⟩;have U:=aA f;have QD:=aA s;have fe:Bl b (b.alloc (.cells #[] y64.t)):=(bQ _ _).alloc (nR _) _;obtain⟨la,lc,rfl⟩:=s.sl.len;clear s;go_wp2;go_loopw [9,10] (fun rv j wx=>∃m:Nat,m<=L.length/\j=.int .i64 m/\y64.Own b.heap.size wx rv ((L.take m).filter fun x=>decide (x≠d))/\Bl b wx) (fun _ j _=>L.length -(intOf j).toNat)
   case atStart=>exact⟨0,Nat.zero_le _,rfl,Ely.Own.lit _ _ (nR _) _ rfl,fe⟩
   case round=>
    obtain⟨m,hm,rfl,E,t⟩:=hrel;have M:=t.size;by_cases X:m<L.length
    ·have Sb:(m:Int) <(L.length:Int):=by omega
     obtain⟨lg,lo,lc',he,YJ,y0⟩:=aBC (QD.out.sl.below t) X;cases he;obtain⟨_,y1,_⟩:=K.out wr (U.out.trans (t.mono G));have F:=aA (zG L d X);have sb:((L.take m).filter fun x=>decide (x≠d)).length<1000000:=Nat.lt_of_le_of_lt (List.length_filter_le _ _) (by rw[List.length_take];omega);generalize (L.take m).filter (fun x=>decide (x≠d))=V at *;generalize L.getD m 0=x at *;clear YJ Q R S T;by_cases y:x=d
     ·have A:Hid ((L.take (m+1)).filter (fun x=>decide (x≠d))=V):=F.out.trans (if_pos y)
      have bz:(x == d)=true:=by simpa using y
      clear y F;go_wp2;go_quiet (fail);go_wp2;go_roundw
      case rel=>exact⟨m+1,by omega,by go_num,by rw[A.out];exact E.below (below_drewN _ _),t.trans ((below_drewN _ _).mono M)⟩
      case measure=>simp[intOf];omega
     ·have A:Hid ((L.take (m+1)).filter (fun x=>decide (x≠d))=V++[x]):=F.out.trans (if_neg y)
      have bz:(x == d)=false:=by simpa using y
      clear y F;go_wp2;go_quiet (fail);have pn:=E.below (below_drewN wr nq);have S7:b.heap.size<=(wr.drewN nq).heap.size:=M;go_wp2_with (first | (at_builtin;refine y64.av rfl _ _ rfl pn rfl x rfl rfl sb S7 ?_;intro v' w1 B C k3) | go_in);rw[<-A.out]at B;have z:=aA ((t.trans ((below_drewN wr nq).mono M)).trans C);clear k3 C;go_roundw
      case rel=>exact⟨m+1,by omega,by go_num,B,z.out⟩
      case measure=>simp[intOf];omega
    ·obtain rfl:m=L.length:=by omega
     rw[List.take_of_length_le (nR _),<-r.out]at E;have z:=aA (U.out.trans (t.mono G));have A:=aA (E.base G);clear E t Q R S T;go_wp2;go_roundw
     case rel=>exact⟨k+1,by omega,by go_num,A.out,z.out⟩
     case measure=>simp[intOf];omega
  ·obtain rfl:k=n:=by omega
   go_wp2
   go_ret
   exact⟨_,rfl,s,f⟩
theorem Ely.Sl.take{α:Type}{Y:Ely α}{w:World}{a:Option Addr}{c:Nat}{l:List α}(h:Y.Sl w (.slice a l.length c) l){m:Nat}(d:m<=l.length):Y.Sl w (.slice a m c) (l.take m):=by
 have b:(l.take m).length=m:=by rw[List.length_take];omega
 rcases h with⟨e,rfl⟩ | ⟨g,o,f,xs,e,i,k,j⟩
 ·obtain rfl:m=0:=by simpa using d
  exact .inl ⟨e,by simp⟩
 ·cases e
  refine .inr ⟨g,o,_,xs,by rw[b],i,by omega,?_⟩;rw[b];conv=>rhs;rw[<-j];rw[List.take_take,Nat.min_eq_left d]
theorem aKK(h:trC n l=0)(m:Nat):trC n (l.take m)=0:=by
 rcases jV n l with⟨b,a⟩ | ⟨b,a,c⟩ | ⟨b,a,c⟩
 ·omega
 ·omega
 ·unfold trC;rw[if_neg (by simp[a]),if_neg (by rw[List.length_take];omega)]
def jH(f:fZ)(k:Nat):List VW:=(List.range k).flatMap fun t=>shp f (aB f t)
theorem vB(f:fZ)(k:Nat):jH f (k+1)=jH f k++shp f (aB f k):=by
 unfold jH;rw[List.range_succ,List.flatMap_append];simp
theorem aHM(h:v∈jH f k):∃t,t<k/\v∈shp f (aB f t):=by
 obtain⟨t,ht,a⟩:=List.mem_flatMap.1 h;exact⟨t,List.mem_range.1 ht,a⟩
theorem aKV(ht:t<k)(h:v∈shp f (aB f t)):v∈jH f k:=List.mem_flatMap.2 ⟨t,List.mem_range.2 ht,h⟩
theorem aEH(a:Inv f)(ht:t<f.r.length):0 <(shp f (aB f t)).length/\(shp f (aB f t)).length<=5120:=by
 obtain⟨h,b,c⟩:=a.ok t ht;obtain⟨e,_,d⟩:=xW a.ic b c;have:=nF b 0;rw[e];omega
theorem nL(a:Inv f):∀k,k<=f.r.length->(jH f k).length<=k*5120
 | 0,_=>by simp[jH]
 | k+1,b=>by
  have c:=nL a k (by omega);have d:=(aEH a b).2;rw[vB,lP];omega
theorem aKY(a:Inv f)(ht:t<f.r.length):atT f (rid f t)=some t:=by
 cases e:atT f (rid f t)with
 | none=>
  unfold atT at e;have:=List.find?_eq_none.1 e t (List.mem_range.2 ht);simp at this
 | some s=>
  obtain⟨b,c⟩:=mO e;rcases Nat.lt_trichotomy s t with q | q | q
  ·have:=a.ids s t q ht;omega
  ·rw[q]
  ·have:=a.ids t s q b;omega
structure CsQ(n:Int)(l:List TO)(m:Nat):Prop where
 ml:m<=l.length
 f0:trC n (l.take m)=0
 cmq:(trF n (l.take m)).m=(trF n l).m
 l1:iY l (trA n l) m=(trF n (l.take m)).r.map Prod.fst
 l2:iY l (trA n l) l.length=(trF n l).r.map Prod.fst
 i1:Inv (trF n (l.take m))
 i2:Inv (trF n l)
 cn:((trF n l).c.length:Int)=n
 st:∀v∈jH (trF n l) (trF n l).r.length,2<=v.1/\v.1 <(trF n l).c.length/\((trF n l).m.getD v.1.toNat 0=0\/∃u∈jH (trF n (l.take m)) (trF n (l.take m)).r.length,u.1=v.1/\u.2.2.1=v.2.2.1/\u.2.2.2.1=v.2.2.2.1)
theorem csq(h:trC n l=0):CsQ n l (mG l (trA n l) l.length):=by
 have r:=aDN l (trA n l) l.length;have p:=aKK h (mG l (trA n l) l.length);have o:trA n l=fF (aH n.toNat) l:=by unfold trA;rw[if_pos h]
 have B:8<=n/\n<=512:=by
  rcases jV n l with⟨a,b⟩ | ⟨a,b,y⟩ | ⟨a,b,y⟩
  ·omega
  ·omega
  ·unfold inB at b;simpa using b
 have d:=Inv.fresh (n:=n.toNat) (by omega) (by omega);have e:=pD n.toNat;have k:(aH n.toNat).r.map Prod.fst=[0]:=rfl;have c:=aHZ d e l l.length (nR _);rw[List.take_length,<-o]at c;have m:=pT p;have j:=pT h;have a:=aCG d e k l (mG l (trA n l) l.length) r;have g:=aCG d e k l l.length (nR _);rw[<-o]at a g;rw[List.take_length]at g;have x:(aH n.toNat).c.length=n.toNat:=by simp[aH]
 refine⟨r,p,c.1.symm,a,g,m.inv,j.inv,by rw[j.c,x];omega,fun v i=>?_⟩;obtain⟨t,ht,i⟩:=aHM i;obtain⟨s,w,f⟩:=aCR m.inv j.inv c ht i;refine⟨s,w,?_⟩;rcases f with f | ⟨C,A,u,z,q⟩
 ·left
  exact(c.co _).trans f
 ·exact .inr ⟨u,aKV A z,q⟩
theorem sW(n:Int)(l:List TO)(v u:Value)(a:List Int)(w:World)(hv:yO.Sl w v l)(hl:l.length<=1048576)(Q:y64.Sl w u a)(hc:trC n l=0)(P:a=(trF n l).r.map Prod.fst):
  Calls Tryz.prog 14 #[.int .i64 n,v,u] w fun e w'=>∃x,e=.returned (.tuple #[x,.bool true])/\yW.Own w.heap.size w' x (jH (trF n l) (trF n l).r.length)/\Bl w w':=by
 have C:=(pT hc).inv;have jy:=C.bq;have ew:a.length=(trF n l).r.length:=by rw[P,List.length_map]
 have J:=aA fun(tree:Int) (W:World) (s:Bl w W)=>nY n l v tree W (hv.below s) hl;have Y:Hid (∀k,k<a.length->tsC n l (a.getD k 0)=0/\tsV n l (a.getD k 0)=shp (trF n l) (aB (trF n l) k)/\0 <(shp (trF n l) (aB (trF n l) k)).length/\(shp (trF n l) (aB (trF n l) k)).length<=5120/\(jH (trF n l) k).length<=81920):=fun k hk=>by
  have e:a.getD k 0=rid (trF n l) k:=by
   rw[P,gD,List.getElem?_map];unfold rid;rw[gD,gE (by omega)];rfl
  rw[e];obtain⟨a1,a2⟩:=aEP hc (aKY C (by omega:k <(trF n l).r.length));have:=aEH C (by omega:k <(trF n l).r.length);have:=nL C k (by omega);exact⟨a1,a2,by omega,by omega,by omega⟩
 have HU:=aA fun(W:World) (s:Bl w W)=>Q.below s;have qy:=aA (vB (trF n l));have V3:=aA ew;have X7:a.length<=16:=by omega
 obtain⟨ua,uc,rfl⟩:=Q.len;clear hv Q hc P C ew;generalize trF n l=f at *;go_enter Tryz.func14,Tryz.ntmps14;go_wp2;go_loopw [8,9,10,11,12] (fun ov i _ _ _ wr=>∃k:Nat,k<=a.length/\i=.int .i64 k/\yW.Own w.heap.size wr ov (jH f k)/\Bl w wr) (fun _ i _ _ _ _=>a.length -(intOf i).toNat)
 case atStart=>exact⟨0,Nat.zero_le _,rfl,Ely.Own.lit _ _ (nR _) _ rfl,(bQ _ _).alloc (nR _) _⟩
 case round=>
  obtain⟨k,hk,rfl,j,s⟩:=hrel;have ay:=s.size;by_cases ak:k<a.length
  ·have kr:(k:Int) <(a.length:Int):=by omega
   obtain⟨g,o,c,he,hg,x0⟩:=aBC (HU.out wr s) ak;cases he;obtain⟨t,y,M,q4,q5⟩:=Y.out k ak;have L:=J.out (a.getD k 0) wr s;unfold TsP at L;rw[t,y]at L;have Z:=aA L;have HS:=aA (qy.out k);have Zq:(((shp f (aB f k)).length:Int) == 0)=false:=by simp only[beq_eq_false_iff_ne,ne_eq];omega
   generalize a.getD k 0=tree at *;generalize jH f k=h at *;generalize shp f (aB f k)=b at *;clear L t y Y J;go_wp2_with fail;refine Z.out.mono ?_;rintro r z ⟨u2,rfl,O,D⟩;obtain⟨va,vc,rfl⟩:=O.sl.len;have Ml:InW w z w.heap.size wr.heap.size h u8 z:=by
    obtain⟨B,p,t,y,M⟩:=j;exact⟨⟨B,p,t,y.ae (Frm.aa (S:=fun _=>False) D) fun _ _=>id,fun g' e=>⟨M g' e,.inl (y.arr g' e).lt⟩⟩,s.trans (D.mono ay),nR _,fun _ _ _=>rfl⟩
   obtain⟨K,N⟩:=eZ (wr.heap.size);have LI:wr.heap.size<=z.heap.size:=D.size;rw[N]at Ml LI;have MO:Hid (yW.Own K z (.slice va b.length vc) b):=by show yW.Own _ _ _ _;rw[<-N];exact O
   have MJ:Hid (w.heap.size<=z.heap.size):=lT ay D.size;clear O j N D Z;go_wp2;go_loopw [8,12] (fun u i wx=>∃m:Nat,m<=b.length/\i=.int .i64 m/\InW w z w.heap.size K (h++b.take m) u wx) (fun _ i _=>b.length -(intOf i).toNat)
   case atStart=>exact⟨0,by omega,rfl,by simpa using Ml⟩
   case round=>
    obtain⟨m,hm,rfl,j⟩:=hrel;by_cases q:m<b.length
    ·obtain⟨B,p,rfl,t,y⟩:=id j.own
     obtain⟨g3,o3,c3,Ge,BP,ig⟩:=aKP MO.out.sl (by omega);cases Ge;have Fj:K<=g3:=by
      obtain⟨a3,j3,e3,_,e4⟩:=MO.out;cases a3 with
      | none=>simp[adr]at e3
      | some g4=>
       simp only[adr,Option.map_some,Value.slice.injEq,sJ,Addr.mk.injEq]at e3;have:=e4 g4 rfl;omega
     obtain⟨y0,y1,y2,y3,y4⟩:=ig wr m (j.bp g3 Fj BP) q;have Sb:(m:Int) <(b.length:Int):=by omega
     have rk:(h++b.take m).length<1000000:=by simp;omega
     have J:Hid (h++b.take (m+1)=h++b.take m++[((b.getD m yW.z).1,(b.getD m yW.z).2.1,(b.getD m yW.z).2.2.1,(b.getD m yW.z).2.2.2.1,(b.getD m yW.z).2.2.2.2)]):=by
      show _=_
      rw[cH b m yW.z q,List.append_assoc]
     have FT:w.heap.size<=wr.heap.size:=j.bb.size;have HR:=aA j;generalize (b.getD m yW.z).1=E at *;generalize (b.getD m yW.z).2.1=F at *;generalize (b.getD m yW.z).2.2.1=G at *;generalize (b.getD m yW.z).2.2.2.1=H at *;generalize (b.getD m yW.z).2.2.2.2=I at *;have jm:Hid (∀A d w',yW.Rw w' A (h++b.take m++[(E,F,G,H,I)]) d->(∀g,A=some g->B=some g\/wr.heap.size<=g)->Frm (fun k=>B=some k) wr w'->InW w z w.heap.size K (h++b.take (m+1)) (.slice (adr A) (h++b.take m++[(E,F,G,H,I)]).length ((h++b.take m++[(E,F,G,H,I)]).length+d.length)) w'):=fun A d w' R T U=>by
      rw[J.out];exact HR.out.step t y R T U FT
     generalize h++b.take m=pm at *;have V:Hid (m+1<=b.length):=q;clear ig j;go_wp2_with (first | (at_builtin;refine yW.bS rfl _ _ rfl t rfl (E,F,G,H,I) rfl rfl rk ?_;intro A d w7 R T U;have Mj:=jm.out A d w7 R T U;clear jm) | go_in);go_roundw
     case rel=>
      have e9:(pm++[(E,F,G,H,I)]).length=pm.length+1:=by simp
      rw[e9]at Mj;exact⟨m+1,V.out,by go_num,Mj⟩
     case measure=>have Nm:=V.out;simp[intOf];omega
    ·obtain rfl:m=b.length:=by omega
     rw[List.take_of_length_le (nR _),<-HS.out]at j;have X:Hid (yW.Own w.heap.size wr u8 (jH f (k+1))/\Bl w wr):=by
      obtain⟨B,p,t,y,M⟩:=j.own;exact⟨⟨B,p,t,y,fun g e=>(M g e).1⟩,j.bb⟩
     clear j;go_wp2;go_roundw
     case rel=>exact⟨k+1,by omega,by go_num,X.out.1,X.out.2⟩
     case measure=>simp[intOf];omega
  ·obtain rfl:k=a.length:=by omega
   have HF:Hid (yW.Own w.heap.size wr u8 (jH f f.r.length)):=by show yW.Own _ _ _ _;rw[<-V3.out];exact j
   clear j;go_wp2;refine bodyPost_ret (v:=.tuple #[u8,.bool true]) (by simp[results,Tryz.results14,go_sem]) rfl ?_;exact⟨_,rfl,HF.out,s⟩
