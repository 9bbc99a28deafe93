package desk_test

import (
	"testing"

	"dovetail/api"
)

// examples are those of DOC.md, 'Examples of the whole', as talks.
func examples() []string {
	return []string{
		// A schema, rows, a scan, a key and back.
		`
> define 'p'
|limit 64
|field a int
|field b bytes down most 8
|done
ok
> put 'p' (1 x78) x31
ok
> put 'p' (1 x79) x32
ok
> put 'p' (-2 x) x33
ok
> scan 'p' () no 0
  (-2 x) x33
  (1 x79) x32
  (1 x78) x31
rows 3
> scan 'p' (1) yes 1
  (1 x78) x31
rows 1
> key 'p' (1 x78)
x1281012387fffe
> read 'p' x128023fffe
(0 x)
> get 'p' (-2 x)
x33
> get 'p' (7 x)
none
`,
		// Numbers, as their bytes.
		`
> define 'n'
|limit 300
|field a int
|done
ok
> key 'n' (0)
x1280
> key 'n' (300)
x1282012c
> key 'n' (-1)
x127ffe
> key 'n' (-256)
x127efeff
> read 'n' x128200
error 140 at 3 path 0
`,
		// A tuple that falls; null within it.
		`
> define 't'
|limit 64
|field t tuple down
|  field n bool null-first
|  field v bool
|end
|done
ok
> key 't' ((null no))
x27fdeefffe
> key 't' ((no yes))
x27eeffeefefe
> put 't' ((null no)) x
ok
> put 't' ((no yes)) x
ok
> put 't' ((no no)) x
ok
> scan 't' () no 0
  ((no yes)) x
  ((no no)) x
  ((null no)) x
rows 3
`,
		// Texts by what they weigh; two spellings of one text.
		`
> marks
|00E1;0;0061 0301
|0301;230;
|done
ok
> entries
|0041;[.1000.0020.0008]
|0061;[.1000.0020.0002]
|0062;[.1001.0020.0002]
|0301;[.0000.0024.0002]
|done
ok
> load
ok
> define 'w'
|limit 64
|field t text strength 2
|done
ok
> key 'w' ("a")
x16221000000000200000610001
> key 'w' ("\xc3\xa1")
x162210000000002000240000c3a10001
> key 'w' ("a\xcc\x81")
x16221000000000200024000061cc810001
> put 'w' ("b") x
ok
> put 'w' ("a\xcc\x81") x
ok
> put 'w' ("A") x
ok
> put 'w' ("a") x
ok
> put 'w' ("\xc3\xa1") x
ok
> scan 'w' () no 0
  ("A") x
  ("a") x
  ("a\xcc\x81") x
  ("\xc3\xa1") x
  ("b") x
rows 5
`,
		// Bounds, and beginnings of bytes.
		`
> define 'p'
|limit 64
|field a int
|field b bytes down most 8
|done
ok
> put 'p' (1 x) x30
ok
> put 'p' (1 x6100) x31
ok
> put 'p' (1 x62) x32
ok
> put 'p' (2 x61) x33
ok
> bounds 'p' () no 0 (yes no 1)
  (2 x61) x33
rows 1
> bounds 'p' (1) no 0 (yes yes x62) (no no x)
  (1 x62) x32
  (1 x6100) x31
rows 2
> starts 'p' (1) no 0 x61
  (1 x6100) x31
rows 1
> starts 'p' () no 0 x61
error 161 at 0 path 0
`,
		// Schemas that bear one another's keys, and one that does not.
		`
> define 'p'
|limit 64
|field a int from 0 to 300
|done
ok
> define 'q'
|limit 64
|field z int null-last
|done
ok
> fits 'p' 'q'
fits
> fits 'q' 'p'
witness
> put 'p' (300) x
ok
> evolve 'p'
|limit 64
|field a int from 0 to 255
|done
error 202 at 0
> evolve 'p'
|limit 64
|field a int null-first
|done
ok
> put 'p' (null) x
ok
> scan 'p' () no 0
  (null) x
  (300) x
rows 2
> schema 'p'
  limit 64
  field a int null-first
`,
		// Rows moved to another schema.
		`
> define 'p'
|limit 64
|field a int
|field b bytes down most 8
|done
ok
> define 'q'
|limit 64
|field b bytes most 8
|field n name most 3
|field a int
|done
ok
> put 'p' (1 x78) x31
ok
> put 'p' (2 x78) x32
ok
> rekey 'p' 'q' 1 0
error 202 at 0
> rekey 'p' 'q' 1 ('z') (5)
error 201 at 1
> rekey 'p' 'q' 1 ('z') 0
ok
> scan 'q' () no 0
  (x78 'z' 1) x31
  (x78 'z' 2) x32
rows 2
> len 'p'
rows 0
`,
		// What is no key, and where.
		`
> define 'p'
|limit 64
|field a int
|field b bytes down most 8
|done
ok
> read 'p' x12
error 140 at 1 path 0
> read 'p' x1180
error 141 at 0 path 0
> read 'p' x128023fffe00
error 151 at 5
> read 'p' x128023ffff
error 142 at 3 path 1
> import 'p' x128013 x
error 141 at 2 path 1
> put 'p' (1) x
error 122 at 0
> put 'p' (1 no) x
error 120 at 0 path 1
> put 'p' (1 x000000000000000000) x
error 124 at 0 path 1
> put 'r' (1 x) x
error 200 at 0
`,
		// Kept, changed, and back.
		`
> back
none
> define 'p'
|limit 64
|field a int
|field b bytes down most 8
|done
ok
> put 'p' (1 x78) x31
ok
> save
kept 105
> delete 'p' (1 x78)
yes
> delete 'p' (1 x78)
no
> names
  p
names 1
> back
ok
> len 'p'
rows 1
`,
		// Texts and schemas that may not be.
		`
> entries
|0061;[.FB40.0020.0002]
|done
ok
> load
error 62 at 1 path 2
> marks
|0041;0;0042
|0042;0;0041
|done
ok
> load
error 42 at 1 path 1
> define 'P'
|limit 9
|field a bool
|done
error 200 at 0
> define 'p'
|limit 9
|field a bool
|field a int
|done
error 112 at 3 path 1
> define 'p'
|limit 9
|field a text strength 4
|done
error 113 at 2 path 0
`,
	}
}

// TestExamples is P22.1: the examples of the whole.
func TestExamples(t *testing.T) {
	for _, talk := range examples() {
		tells(t, scriptOf(talk), toldOf(talk))
	}
}

// TestChapterExamples is P22.1: the chapter's own.
func TestChapterExamples(t *testing.T) {
	tells(t, "", "")
	refuses(t, "names", api.ErrDeskLine, 1)
	for _, line := range []string{"names ", "names x", "put 'p' 1 x", "len p", "scan 'p' () yes -1"} {
		refuses(t, line+"\n", api.ErrDeskLine, 1)
	}
	refuses(t, "define 'p'\nlimit 9\n", api.ErrDeskLine, 3)
	tells(t, "len 'p'\n", "> len 'p'\nerror 200 at 0\n")
}
