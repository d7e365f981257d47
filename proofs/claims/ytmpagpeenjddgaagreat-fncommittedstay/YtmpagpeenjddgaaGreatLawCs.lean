import Derived.Test.YtmpagpeenjddgaaGreatEd4
set_option maxHeartbeats 9999999
set_option maxRecDepth 99999
set_option linter.all false
namespace Go.Proofs.YtmpagpeenjddgaaGreat
open Go.RowKit Fo
theorem rdN{w:World}{a:Option Addr}{c:Nat}{zs:List Int}(h:Nts w (.slice a zs.length c) zs)(d:0<zs.length):∃g o,a=some ⟨g,o,none⟩/\∀W,Bl w W->∀k,k<zs.length->W.cell? ⟨g,o+k,none⟩=some (.int .i64 (zs.getD k 0)):=by
 obtain⟨m,n,e,i⟩:=h.shape;cases e;obtain⟨g,o,rfl,b⟩:=i d;have j:g<w.heap.size:=World.block_lt_of_cell? _ _ (b 0 d);exact⟨g,o,rfl,fun W f k l=>(f.cell (p:=⟨g,_,none⟩) j).trans (b k l)⟩
theorem aKJ{n:Int}{l:List TO}(h:trC n l=0):tcM n l=(trF n l).m:=by unfold tcM;rw[if_pos h]
def mtc(u v:VW):Bool:=decide (u.1=v.1/\u.2.2.1=v.2.2.1/\u.2.2.2.1=v.2.2.2.1)
theorem aGT(a:Option Addr)(c:Nat)(zs:List Int)(w:World)(hv:Bts w (.slice a zs.length c) zs)(hl:zs.length<=1048576)(ho:0<zs.length->∀b off,a=some ⟨b,off,none⟩->b<w.heap.size):
  Calls Tryz.prog 4 #[.slice a zs.length c] w fun e w'=>e=.returned (.bool true)/\Bl w w':=by
 have cq:=aLM zs hl;have h1:¬(1048576:Int) <(zs.length:Int):=by omega
 have HD:=aA (uM a c zs w hv hl ho);generalize dtr zs=D at *;obtain⟨n,A⟩:=D;simp only at HD cq;clear hv ho hl;go_enter Tryz.func4,Tryz.ntmps4;go_wp2_with fail;refine HD.out.mono ?_;rintro e w1 ⟨u,rfl,⟨hS,Em⟩,au⟩;obtain⟨g,o,c0,rfl,hg,_⟩:=hS.at cq;have NK:A.length<=c0:=Em;obtain⟨l,oh⟩:∃l,l=A.take 260:=⟨_,rfl⟩;have V:l.length=min 260 A.length:=by rw[oh,List.length_take]
 have X:yO.Sl w1 (.slice (some ⟨g,o,none⟩) l.length c0) l:=by
  have:=hS.take (m:=min 260 A.length) (by omega)
  rw[V,oh];by_cases q:260<=A.length
  ·rw[Nat.min_eq_left q]at this |-;exact this
  ·rw[Nat.min_eq_right (by omega),List.take_of_length_le (by omega)];exact hS
 have Iq:=aA V;clear hS Em oh HD V;go_upto_if 37 with fail
 go_cut [4] (fun s4 wx=>s4=.slice (some ⟨g,o,none⟩) l.length c0/\wx=w1)
 case first=>as_aux_lemma=>
  have V:=Iq.out;by_cases q:260<A.length
  ·have qi:(260:Int) <(A.length:Int):=by omega
   have qc:260<=c0:=by omega
   have r:Hid (l.length=260):=(show l.length=260 by omega);clear V X;go_wp2_with fail;go_meet
   case rel=>exact⟨by rw[r.out],rfl⟩
  ·have qi:¬(260:Int) <(A.length:Int):=by omega
   have r:Hid (l.length=A.length):=(show l.length=A.length by omega);clear V X;go_wp2_with fail;go_meet
   case rel=>exact⟨by rw[r.out],rfl⟩
 case rest=>
  obtain⟨rfl,rfl⟩:=hcut;have U9:l.length<=260:=by have:=Iq.out;omega
  have Zk:l.length<=c0:=by have:=Iq.out;omega
  have L:=aA fun(W:World) (p:Bl wc W)=>X.below p;have YM:0<l.length:=by have:=Iq.out;omega
  clear Iq cq NK;go_wp2_with fail;refine(qX n l _ _ X (by omega)).mono ?_;rintro e w2 ⟨ua,rfl,hA,Y⟩;have Bx:=X.below Y;go_wp2_with fail;refine(iS n l _ _ Bx (by omega)).mono ?_;rintro e w3 ⟨xa,xk,ya,yk,_,_,_,_,rfl,_,_,_,_,_,_,oM,I⟩;have EX:=Bx.below I;go_wp2_with fail;refine(nC n l _ _ EX (by omega)).mono ?_;rintro e T ⟨b0,d0,b1,d1,_,_,_,_,rfl,_,_,_,_,_,_,oN,fw⟩;have xi:=Y.trans (I.mono Y.size);have R:=xi.trans (fw.mono xi.size);have C7:=(hA.below I).below fw;have F:=oM.below fw;have LT:=aA au;clear X Bx EX hA oM;by_cases J:trC n l=0
  case neg=>
   have bw:(trC n l == 0)=false:=by simpa using J
   have HB:=aA (au.trans (R.mono au.size));clear J C7 F oN Y I fw xi R;generalize trC n l=cd at *;go_wp2;go_ret;exact⟨rfl,HB.out⟩
  have f:=csq J;have UA:(trA n l).length=l.length:=by unfold trA;rw[if_pos J,gS]
  obtain⟨va,vc,rfl⟩:=C7.sl.len;obtain⟨g2,o2,c2,e2,ws,T8⟩:=C7.sl.at (by omega);cases e2;obtain⟨g1,o1,c1,e1,li,AD⟩:=aER (L.out T R) YM;cases e1;have Q6:=aKJ J;have M:=(aKJ f.f0).trans f.cmq;have av:0 <(trF n l).m.length:=by have:=f.i2.ic.len;have:=f.i2.ic.n8;omega
  rw[Q6]at F oN;rw[J,Q6,UA];have HC:=aA J;have HQ:=aA f;have Bc:=aA M;have TU:=aA C7;have O1:Hid (∀k,k<l.length->T.cell? ⟨g,o+k*4,none⟩=some (.int .i64 (l.getD k o0).1)/\T.cell? ⟨g2,o2+k*3,none⟩=some (.int .i64 ((trA n l).getD k a0).1)):=fun k hk=>⟨(AD T k rfl hk).1,T8 k 0 (by omega) (by decide)⟩;have jm:Hid (∀k,mG l (trA n l) (k+1)=if(l.getD k o0).1=5/\((trA n l).getD k a0).1=0 then k+1 else mG l (trA n l) k):=fun k=>rfl;clear Q6 M J f AD T8 C7;go_wp2;go_loopw [13,14] (fun Z i wr=>∃k:Nat,k<=l.length/\i=.int .i64 k/\Z=.int .i64 (mG l (trA n l) k)/\T=wr) (fun _ i _=>l.length -(intOf i).toNat)
  case atStart=>exact⟨0,Nat.zero_le _,rfl,rfl,rfl⟩
  case round=>
   obtain⟨k,hk,rfl,rfl,rfl⟩:=hrel;by_cases H:k<l.length
   ·have kr:(k:Int) <(l.length:Int):=by omega
    obtain⟨x0,x1⟩:=O1.out k H;have rz:=aA (jm.out k);generalize mG l (trA n l) k=ck at *;generalize (l.getD k o0).1=kd at *;generalize ((trA n l).getD k a0).1=cd at *;by_cases e5:kd=5
    ·subst e5
     by_cases e0:cd=0
     ·subst e0
      have r:Hid (mG l (trA n l) (k+1)=k+1):=rz.out.trans (if_pos ⟨rfl,rfl⟩);clear rz;go_wp2;go_roundw
      case rel=>exact⟨k+1,by omega,by go_num,by rw[r.out];go_num,trivial⟩
      case measure=>simp[intOf];omega
     ·have r:Hid (mG l (trA n l) (k+1)=ck):=rz.out.trans (if_neg fun q=>e0 q.2)
      have e0':(cd == 0)=false:=by simpa using e0
      clear rz e0;go_wp2;go_roundw
      case rel=>exact⟨k+1,by omega,by go_num,by rw[r.out],trivial⟩
      case measure=>simp[intOf];omega
    ·have r:Hid (mG l (trA n l) (k+1)=ck):=rz.out.trans (if_neg fun q=>e5 q.1)
     have e5':(kd == 5)=false:=by simpa using e5
     clear rz e5;go_wp2;go_roundw
     case rel=>exact⟨k+1,by omega,by go_num,by rw[r.out],trivial⟩
     case measure=>simp[intOf];omega
   ·obtain rfl:k=l.length:=by omega
    have f:=HQ.out;have M:=Bc.out;obtain⟨m,Hm⟩:∃m,Hid (mG l (trA n l) l.length=m):=⟨_,rfl⟩;rw[Hm.out]at f M |-;have PV:m<=c0:=by have:=f.ml;omega
    have Li:=(L.out T R).take f.ml;have Tx:=aA (iS n (l.take m) _ T Li (by rw[List.length_take];omega));have Tq:=aA f;clear f HQ Bc O1 jm;go_wp2_with fail;refine Tx.out.mono ?_;rintro e U ⟨a5,k5,a6,k6,_,_,_,_,rfl,_,_,_,_,_,_,oT,ef⟩;have f:=Tq.out;rw[M]at oT;rw[f.f0,M];have G:=R.trans (ef.mono R.size);obtain⟨g3,o3,rfl,hM⟩:=rdN (F.below ef).c7 av;obtain⟨g4,o4,rfl,hN⟩:=rdN (oN.below ef).c7 av;obtain⟨g5,o5,rfl,hT⟩:=rdN oT.c7 av;have Cr:(trF n l).m.length<=512:=by have:=f.i2.ic.len;have:=f.i2.ic.al;omega
    have H3:((trF n l).m.length:Int)=n:=by have:=f.i2.ic.len;have:=f.cn;omega
    have xe:=TU.out.below ef;have D5:=aA fun(W:World) (p:Bl U W)=>vS l (trA n l) _ _ m W (L.out W (G.trans (p.mono G.size))) (xe.below p).sl f.ml (by have:=f.ml;omega) (by have:=f.ml;omega);have Hf:=aA fun(W:World) (p:Bl U W)=>vS l (trA n l) _ _ l.length W (L.out W (G.trans (p.mono G.size))) (xe.below p).sl (nR _) (by omega) (by omega);simp only[UA]at D5 Hf;have QJ:=aA fun(W:World) (u:Value) (p:Bl U W) (P:y64.Sl W u (iY l (trA n l) m))=>sW n (l.take m) _ u _ W ((L.out W (G.trans (p.mono G.size))).take f.ml) (by rw[List.length_take];omega) P f.f0 f.l1;have QK:=aA fun(W:World) (u:Value) (p:Bl U W) (P:y64.Sl W u (iY l (trA n l) l.length))=>sW n l _ u _ W (L.out W (G.trans (p.mono G.size))) (by omega) P HC.out f.l2;have yh:Hid (∀v∈jH (trF n l) (trF n l).r.length,2<=v.1/\v.1 <(trF n l).m.length/\((trF n l).m.getD v.1.toNat 0=0\/∃u∈jH (trF n (l.take m)) (trF n (l.take m)).r.length,mtc u v=true)):=fun v hv=>by
     obtain⟨q1,q2,q3⟩:=f.st v hv;have:=f.i2.ic.len;refine⟨q1,by omega,q3.imp id fun⟨u,P,q⟩=>⟨u,P,decide_eq_true q⟩⟩
    have qe:(jH (trF n (l.take m)) (trF n (l.take m)).r.length).length<=81920:=by have:=nL f.i1 _ (nR _);have:=f.i1.bq;omega
    have lw:(jH (trF n l) (trF n l).r.length).length<=81920:=by have:=nL f.i2 _ (nR _);have:=f.i2.bq;omega
    have HM:=aA hM;have z:=aA hN;have LY:=aA hT;have ru:=aA (LT.out.trans (G.mono LT.out.size));generalize jH (trF n l) (trF n l).r.length=N at *;generalize jH (trF n (l.take m)) (trF n (l.take m)).r.length=s at *;generalize (trF n l).m=com at *;clear f Tq M oT oN F hM hN hT xe TU Y I fw xi R ef L Tx Li HC;go_wp2;go_loopw [18] (fun i wr=>∃k:Nat,k<=com.length/\i=.int .i64 k/\Bl U wr) (fun i _=>com.length -(intOf i).toNat)
    case atStart=>exact⟨0,Nat.zero_le _,rfl,bQ _ _⟩
    case round=>
     obtain⟨k,hk,rfl,p⟩:=hrel;by_cases H:k<com.length
     ·have kr:(k:Int) <(com.length:Int):=by omega
      have x1:=HM.out wr p k H;have x2:=z.out wr p k H;have x3:=LY.out wr p k H;have lq:=p.size;generalize com.getD k 0=x at *;go_wp2;go_quiet (fail);go_wp2;go_roundw
      case rel=>exact⟨k+1,by omega,by go_num,p.trans ((below_drewN _ _).mono lq)⟩
      case measure=>simp[intOf];omega
     ·obtain⟨C,rfl⟩:∃C,C=wr:=⟨_,rfl⟩
      go_upto_region 27 with fail
      go_cut [19,20] (fun s19 s20 wx=>s20=.bool true/\yW.Own U.heap.size wx s19 s/\Bl U wx)
      case first=>
       have kh:=p.trans ((bQ C.heap.size C).drew.mono p.size);have HA:=aA (D5.out C.drew kh);have HB:=aA fun(E:World) (x:Value) (h1:y64.Own C.drew.heap.size E x (iY l (trA n l) m)) (h2:Below C.drew.heap.size C.drew E)=>QJ.out E x (kh.trans (h2.mono kh.size)) h1.sl;have HZ:=aA fun(E:World) (h2:Below C.drew.heap.size C.drew E)=>kh.trans (h2.mono kh.size);clear D5 QJ Hf QK HM z LY p kh;go_region_held3 (fun _=>True) (exact trivial) ((first | (go_at_call 15;refine HA.out.mono ?_;rintro e E ⟨x1,rfl,AZ,wl⟩) | (go_at_call 14;refine(HB.out E x1 AZ wl).mono ?_;rintro e w8 ⟨x2,rfl,DF,K⟩)));go_wp2_with fail;go_meet
       case rel=>exact⟨rfl,DF.base (HZ.out E wl).size,(HZ.out E wl).trans (K.mono (HZ.out E wl).size)⟩
      case rest=>
       obtain⟨rfl,AZ,K⟩:=hcut;obtain⟨ba,bc,rfl⟩:=AZ.sl.len;have Dy:=aA (Hf.out wc K);have TV:=aA fun(w9:World) (x:Value) (h1:y64.Own wc.heap.size w9 x (iY l (trA n l) l.length)) (h2:Bl wc w9)=>QK.out w9 x (K.trans (h2.mono K.size)) h1.sl;have Tj:=aA AZ;clear D5 QJ Hf QK HM LY AZ p;go_wp2_with fail;refine Dy.out.mono ?_;rintro e w9 ⟨x3,rfl,py,fl⟩;go_wp2_with fail;refine(TV.out w9 x3 py fl).mono ?_;rintro e S ⟨x4,rfl,Lf,CB⟩;obtain⟨aa,ac,rfl⟩:=Lf.sl.len;have Jw:=fl.trans (CB.mono fl.size);have GW:=K.trans (Jw.mono K.size);have Vn:=aA fun(h:0<N.length)=>aKP Lf.sl h;have Vr:=aA fun(h:0<s.length)=>aKP (Tj.out.below Jw).sl h;have Hg:=aA fun(W:World) (p:Bl S W)=>z.out W (GW.trans (p.mono GW.size));have FM:=aA (ru.out.trans (GW.mono ru.out.size));clear Dy TV Tj z ru py Lf K fl CB Jw GW;go_wp2;go_loopw [23,24,25,26] (fun i _ _ _ wr=>∃k:Nat,k<=N.length/\i=.int .i64 k/\Bl S wr) (fun i _ _ _ _=>N.length -(intOf i).toNat)
       case atStart=>exact⟨0,Nat.zero_le _,rfl,bQ _ _⟩
       case round=>
        obtain⟨k,hk,rfl,qp⟩:=hrel;by_cases H:k<N.length
        ·have kr:(k:Int) <(N.length:Int):=by omega
         obtain⟨gA,oA,cA,eA,Xx,Fg⟩:=Vn.out (by omega);cases eA;obtain⟨x0,x1,x2,x3,x4⟩:=Fg wr k (qp.block gA Xx) H;obtain⟨q1,q2,q3⟩:=yh.out (N.getD k yW.z) (by rw[gD,gE H];exact List.getElem_mem _);generalize N.getD k yW.z=v at *;obtain⟨b,d,kd,O,Z⟩:=v;simp only at x0 x1 x2 x3 x4 q1 q2 q3;obtain⟨b,rfl⟩:∃b':Nat,b=b':=⟨b.toNat,by omega⟩;simp only[Int.toNat_natCast]at q3;have sv:b<com.length:=by omega
         have Cq:(b:Int) <(com.length:Int):=by omega
         have Y:¬(b:Int)<2:=by omega
         have Ll:decide (n<=(b:Int))=false:=decide_eq_false (by omega);have IV:=qp.size;obtain⟨B,hB⟩:=eZ (wr.heap.size);obtain⟨w3,du⟩:=eZ (wr.alloc (.cells #[.int .i64 b,.int .i64 d,.int .i64 kd,.int .i64 O,.int .i64 Z] 48));have I:=bAl du;have y:=iNw du hB;have lr:Bl S w3:=qp.trans (I.mono IV);have xn:=Hg.out w3 lr b sv;have d0:w3.cell? ⟨B,0,none⟩=some (.int .i64 b):=y.c rfl;have WL:=aA q3;have T1:=aA y;have F8:=aA lr;clear y I qp q1 q2 q3 Fg lr;generalize com.getD b 0=cb at *;go_wp2;clear du hB x0 x1 x2 x3 x4;go_loopw [25,26] (fun fd i wx=>∃(j:Nat) (fb:Bool),j<=s.length/\i=.int .i64 j/\fd=.bool fb/\Hid (fb=false->cb≠0/\∀t,t<j->mtc (s.getD t yW.z) ((b:Int),d,kd,O,Z)=false)/\Bl w3 wx) (fun _ i _=>s.length -(intOf i).toNat)
         case atStart=>exact⟨0,_,Nat.zero_le _,rfl,rfl,fun q=>⟨by simpa using q,fun t ht=>by omega⟩,bQ _ _⟩
         case round=>
          obtain⟨j,fb,hj,rfl,rfl,Oj,y⟩:=hrel;have TD:=y.size;cases fb with
          | true=>
           have r:=aA (F8.out.trans (y.mono F8.out.size));clear y;by_cases sc:(j:Int) <(s.length:Int)
           ·go_wp2
            go_roundw
            case rel=>exact⟨k+1,by omega,by go_num,r.out⟩
            case measure=>simp[intOf];omega
           ·go_wp2
            go_roundw
            case rel=>exact⟨k+1,by omega,by go_num,r.out⟩
            case measure=>simp[intOf];omega
          | false=>
           by_cases sc:j<s.length
           ·have d9:(j:Int) <(s.length:Int):=by omega
            obtain⟨gB,oB,cB,eB,IA,Ur⟩:=Vr.out (by omega);cases eB;obtain⟨y0,y1,y2,y3,y4⟩:=Ur wr j ((F8.out.trans (y.mono F8.out.size)).block gB IA) sc;have lu:=T1.out.of (y.block B T1.out.lt);have z0:wr.cell? ⟨B,0,none⟩=some (.int .i64 b):=lu.c rfl;have z2:wr.cell? ⟨B,2,none⟩=some (.int .i64 kd):=lu.c rfl;have z3:wr.cell? ⟨B,3,none⟩=some (.int .i64 O):=lu.c rfl;have Q:Hid (mtc (s.getD j yW.z) ((b:Int),d,kd,O,Z)=false->cb≠0/\∀t,t<j+1->mtc (s.getD t yW.z) ((b:Int),d,kd,O,Z)=false):=fun q=>⟨(Oj.out rfl).1,fun t ht=>by
             by_cases e:t=j
             ·rw[e];exact q
             ·exact(Oj.out rfl).2 t (by omega)⟩
            have GB:Hid (∀q,Bl w3 (wr.drewN q)):=fun q=>y.trans ((below_drewN _ _).mono TD);clear lu Ur y Oj y1 y4;generalize s.getD j yW.z=u at *;obtain⟨bj,dj,kj,ej,cj⟩:=u;simp only at y0 y2 y3;by_cases e1:bj=(b:Int)
            ·subst e1
             by_cases e2:kj=kd
             ·subst e2
              by_cases e3:ej=O
              ·subst e3
               clear Q;go_wp2;go_quiet (fail);go_wp2;go_roundw
               case rel=>exact⟨j+1,true,by omega,by go_num,rfl,fun q=>(by cases q),GB.out _⟩
               case measure=>simp[intOf];omega
              ·have e3':(ej == O)=false:=by simpa using e3
               have z:=aA (Q.out (decide_eq_false fun q=>e3 q.2.2));clear Q e3;go_wp2;go_quiet (fail);go_wp2;go_roundw
               case rel=>exact⟨j+1,false,by omega,by go_num,rfl,fun _=>z.out,GB.out _⟩
               case measure=>simp[intOf];omega
             ·have e2':(kj == kd)=false:=by simpa using e2
              have z:=aA (Q.out (decide_eq_false fun q=>e2 q.2.1));clear Q e2;go_wp2;go_quiet (fail);go_wp2;go_roundw
              case rel=>exact⟨j+1,false,by omega,by go_num,rfl,fun _=>z.out,GB.out _⟩
              case measure=>simp[intOf];omega
            ·have e1':(bj ==(b:Int))=false:=by simpa using e1
             have z:=aA (Q.out (decide_eq_false fun q=>e1 q.1));clear Q e1;go_wp2;go_quiet (fail);go_wp2;go_roundw
             case rel=>exact⟨j+1,false,by omega,by go_num,rfl,fun _=>z.out,GB.out _⟩
             case measure=>simp[intOf];omega
           ·exfalso
            obtain⟨f1,f2⟩:=Oj.out rfl;rcases WL.out with q | ⟨u,P,q⟩
            ·exact f1 q
            ·obtain⟨t,ht,rfl⟩:=List.mem_iff_getElem.1 P
             have:=f2 t (by omega)
             rw[gD,gE ht]at this;exact absurd (q.symm.trans this) (by decide)
        ·have r:=aA (FM.out.trans (qp.mono FM.out.size))
         clear qp;go_wp2;go_ret;exact⟨rfl,r.out⟩
end Go.Proofs.YtmpagpeenjddgaaGreat
namespace Go.Proofs.YtmpagpeenjddgaaGreat
open Go.RowKit
theorem aKE(a0:Option Addr)(c0:Nat)(zs:List Int)(w:World)(a:Bts w (.slice a0 zs.length c0) zs)(k:zs.length<=9223372036854775807):
  Calls Tryz.prog 4 #[.slice a0 zs.length c0] w fun e w'=>e=.returned (.bool true)/\Bl w w':=by
 by_cases g:zs.length<=1048576
 ·refine aGT a0 c0 zs w a g fun c b off e=>?_
  obtain⟨_,_,q,h⟩:=a.shape;cases q;obtain⟨j,d,rfl,f⟩:=h c;cases e;exact World.block_lt_of_cell? _ _ (f 0 c)
 ·have i:(1048576:Int) <(zs.length:Int):=by omega
  clear a;go_enter Tryz.func4,Tryz.ntmps4;go_wp2_with fail;go_ret;exact⟨rfl,bQ _ _⟩
end Go.Proofs.YtmpagpeenjddgaaGreat
namespace Go.Proofs.YtmpagpeenjddgaaGreat.fnCommittedStay
open Go.ChangeShapes Go.WideShapes Go.ChangeAt Go.RowKit
theorem lifted(r:Os)(a:r.Started)(H:Type)(enc:TypeId×Value->H):
  ReturnsInHanded {} Tryz.checked r 4 .any (Rows.fnCommittedStaySpec.pre6 enc Tryz.prog Tryz.f4 Rows.fnCommittedStayRow.domain false) (Rows.fnCommittedStaySpec.post enc Tryz.prog Tryz.f4 false true false false):=by
 refine returnsInHanded_of_change (C:=Tryz.checked) ownQ a (by kernel_rfl) Tryz.func4
  (ChangeSpec.witness6 (enc:=enc) (C:=Tryz.checked) false ⟨#[],#[.slice none 0 0],[]⟩ 8 (by kernel_rfl) (by kernel_rfl) (by kernel_rfl) (by kernel_rfl)) ?_
 intro W base args w Q c g n O _;have f:∀(j:Nat) t v,Tryz.f4.params[j]?=some t->args[j]?=some v->Value.okWide Tryz.prog W .any base t v:=g;have u:=n;obtain⟨p,q,i,z,rfl,K,J⟩:=n;have l:DataW.TrodAll enc Tryz.prog W 0 (fun _=>true) true Tryz.f4.params.toList args.toList w p:=i;rw[Tryz.params4]at l f;obtain⟨s,G,P,y,F,R,M,rfl,rfl,k,r0⟩:=trodAll_cons l;obtain⟨rfl,rfl,rfl⟩:=trodAll_nil r0;obtain rfl:args=#[s]:=by cases args;simp_all
 obtain⟨rfl,rfl⟩:=trodVars_none z;have o:=k;have d:∀x∈F,x.block<W.heap.size:=by obtain⟨m,B⟩:=o;exact DataW.trod_lt m _ _ _ B
 obtain⟨a0,E,I,rfl,L,D⟩:=aEX (f 0 22 s rfl rfl) k;clear i g;refine(aKE a0 E I W D (by omega)).mono fun e N ⟨A,b⟩=>?_;subst A;exact⟨_,rfl,_,_,_,[],_,[],u,trodAll_mk1 (shut_bool Tryz.underlying4 _),(trodAll_cons_mk (Below.trod laidOut (by kernel_rfl) (of_decide_eq_true (by kernel_rfl)) o b d) trodAll_mk0),rfl,b.frame _,fun h=>by cases h⟩
theorem over:Rows.fnCommittedStayRow.holds Tryz.pinned (OpenSpec.ofChange Rows.fnCommittedStaySpec):=
 OpenClaim.holds_of_wide 4 Tryz.f4 rfl rfl rfl rfl rfl rfl rfl ⟨rfl,rfl,rfl,rfl,rfl⟩ rfl rfl rfl rfl rfl (by kernel_rfl) Tryz.func4 (by kernel_rfl)
  (of_decide_eq_true (by kernel_rfl)) (by unfold Func.isWrapper;first | (rw[if_pos (by decide +kernel)];kernel_rfl) | (rw[if_neg (by decide +kernel)];exact⟨rfl,rfl⟩))
  (fun b a H enc _=>lifted b a H enc)
theorem proved:Rows.FnCommittedStaySaid:=over
end Go.Proofs.YtmpagpeenjddgaaGreat.fnCommittedStay
