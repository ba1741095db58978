"""A shelf of works that keep what they claim, and of the locks that they hold, each as it is written."""

from cellvouch.works import read_locks, read_work
from tests.shelf import BY_NAME as DEEDS_BY_NAME

LOCKS_TEXT = """lock l cell 1 v n
lock m cell 2 h 0 ; row h 0 r
lock k cell 3 a b ; row a b s ; row b 0 t"""

TEXTS = """
deed inc takes x ; tells y
ahead none
behind none
hold l
  get y 1 worth
  put 1 worth x

deed push takes v ; tells -
ahead none
behind none
new c v 0
hold m
  get h 2 worth
  put c next h
  put 2 worth c

deed pop takes - ; tells a v
ahead none
behind none
hold m
  get h 2 worth
  if h is 0
    set a 0
  else
    set a 1
    get v h worth
    get n h next
    put 2 worth n
    free h

deed par takes x y ; tells a b
ahead none
behind none
both a = inc x ; b = inc y

deed pushpop takes x ; tells a v
ahead none
behind none
both - = push x ; a v = pop -

deed revs takes x y ; tells a b
ahead row x 0 r ; row y 0 s
behind row a 0 ~r ; row b 0 ~s
both a = rev x ; b = rev y

deed revrev takes x y ; tells a b
ahead row x 0 r ; row y 0 s
behind row a 0 r ; row b 0 s
both a b = revs x y ; c d = par 1 2
both a = rev a ; b = rev b

deed freeboth takes x y ; tells -
ahead row x 0 r ; row y 0 s
behind none
both - = freeall x ; - = freerec y

deed one takes x ; tells n
ahead cell x v m
behind same n m
get n x next
free x

deed fan takes x ; tells -
ahead row x 0 r
behind none
if x isn't 0
  call n = first x
  both - = fan n ; m = one x
else
  pass

deed first takes x ; tells m
ahead cell x v n
behind cell x v n ; same m n
get m x next

deed drain takes - ; tells many
ahead none
behind none
set go 1
while go is 1
  ahead none
  behind none
  call go v = pop -
  if go is 1
    hold l
      get many 1 worth
      put 1 worth v
  else
    pass

deed fill takes x ; tells -
ahead row x 0 r
behind row x 0 r
set z x
while z isn't 0
  ahead row x z a ; row z 0 b
  behind row x 0 a b
  get w z worth
  both y = inc w ; - = push w
  get z z next

deed move takes - ; tells -
ahead none
behind none
hold k
  get a 3 worth
  get b 3 next
  if a is b
    pass
  else
    hold m
      get h 2 worth
      get n a next
      put a next h
      put 2 worth a
      put 3 worth n

deed clear takes - ; tells -
ahead none
behind none
hold m
  get z 2 worth
  while z isn't 0
    ahead cell 2 h 0 ; row z 0 p
    behind cell 2 q 0
    get n z next
    free z
    put 2 worth n
    set z n
  put 2 worth 0

deed sum takes - ; tells z
ahead none
behind none
hold m
  get z 2 worth
  set f z
  while z isn't 0
    ahead cell 2 f 0 ; row f z p ; row z 0 q
    behind cell 2 f 0 ; row f 0 p q
    get w z worth
    get z z next
    hold l
      put 1 worth w

deed swap takes - ; tells -
ahead none
behind none
hold l
  hold m
    get a 1 worth
    get b 2 worth
    if b isn't 0
      get c b worth
      put b worth a
      put 1 worth c
    else
      pass

deed nothing takes - ; tells -
ahead none
behind none
both - = idle - ; - = idle -

deed idle takes - ; tells -
ahead none
behind none
pass

deed taker takes x ; tells -
ahead cell x v n
behind cell x 5 n
hold l
  get a x worth
  put 1 worth a
put x worth 5

deed takers takes x y ; tells -
ahead cell x v n ; cell y w m
behind cell x 5 n ; cell y 5 m
both - = taker x ; - = taker y
hold k
  hold l
    put 1 next 7

deed walk takes - ; tells z
ahead none
behind none
hold k
  get a 3 worth
  get b 3 next
  set z a
  while z isn't b
    ahead cell 3 a b ; row a z p ; row z b q ; row b 0 t
    behind cell 3 a b ; row a b p q ; row b 0 t
    get w z worth
    get z z next

deed flush takes - ; tells -
ahead none
behind none
hold k
  get z 3 worth
  get b 3 next
  while z isn't b
    ahead row z b p ; row b 0 t
    behind row b 0 t
    get n z next
    free z
    set z n
  put 3 worth b

deed whole takes - ; tells -
ahead none
behind none
hold k
  get a 3 worth
  put 3 next a

deed further takes - ; tells n
ahead none
behind none
both - = whole - ; m = walk -
hold k
  get b 3 next
  if b isn't 0
    get n b next
    put 3 next n
  else
    pass

deed many takes x ; tells a b
ahead row x 0 r
behind row x 0 r
both - = fill x ; a b = pushpop 4
both c = drain - ; a b = par 8 9
both - = clear - ; - = move -"""

LOCKS = read_locks(LOCKS_TEXT)
WORKS = [read_work(text) for text in TEXTS.strip("\n").split("\n\n")]
WORKS.extend([DEEDS_BY_NAME[name] for name in ("rev", "freeall", "freerec")])
BY_NAME = {work[0]: work for work in WORKS}


def without_row(text, row):
    """The text without one of its rows."""
    rows = text.split("\n")
    return "\n".join(rows[:row] + rows[row + 1:])
