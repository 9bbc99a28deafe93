package desk_test

import "testing"

// pairs is how talks begin that want a schema of two fields.
const pairs = `
> define 'p'
|limit 64
|field a int
|field b bytes down most 8
|done
ok
`

// letters is how talks begin that want tables.
const letters = `
> marks
|00E1;0;0061 0301
|0301;230;
|done
ok
> entries
|0061;[.1000.0020.0002]
|0062;[.1001.0020.0002]
|0301;[.0000.0024.0002]
|done
ok
> load
ok
> define 'w'
|limit 64
|field t text strength 2
|done
ok
`

// commandTalks have each line of the chapter's table: what it tells, and what it tells when it is refused.
func commandTalks() []string {
	return []string{
		// marks, entries, load: what is read and what is loaded are two things
		`
> load
ok
> marks
|0301;230
|done
ok
> entries
|0061;[.1000.0020.0002]
|0061;[.1000.0020.0002]
|done
ok
> load
error 40 at 1 path 1
> marks
|# a remark, and a line that says nothing
|
|00E1;0;0061 0301
|0301;230;
|done
ok
> load
error 61 at 2 path 2
> entries
|0062;[.1001.0020.0002]
|
|0061;[.1000.0020.0002]
|# a word that ends no block: done
| done
|done
ok
> load
error 60 at 5 path 2
> entries
|
|0061;[.1000.0020.0002]
|done
ok
> load
ok
> marks
|done
ok
> load
ok
> marks
|
|done
ok
> load
ok
`,
		// load: no other tables where rows hang on them; what is refused leaves those that there are
		letters + `
> key 'w' ("a")
x16221000000000200000610001
> put 'w' ("a") x
ok
> entries
|0061;[.1002.0020.0002]
|done
ok
> key 'w' ("a")
x16221000000000200000610001
> load
error 202 at 0
> key 'w' ("a")
x16221000000000200000610001
> read 'w' x16221000000000200000610001
("a")
> delete 'w' ("a")
yes
> load
ok
> key 'w' ("a")
x16221002000000200000610001
> read 'w' x16221000000000200000610001
error 144 at 2 path 0
`,
		// define
		`
> define 'a'
|# a remark, and a line that says nothing
|
|limit 9 # words
|  field   a bool
|done
ok
> define 'a'
|limit 9
|field a bool
|done
error 201 at 0
> define 'A'
|limit 9
|field a bool
|done
error 200 at 0
> define ''
|done
error 200 at 0
> define 'a-0123456789abcd'
|limit 9
|field a bool
|done
ok
> define 'a-0123456789abcde'
|limit 9
|field a bool
|done
error 200 at 0
> define 'e'
|done
error 110 at 1
> define 'e'
|
|limit 0
|field a bool
|done
error 113 at 2
> define 'e'
|limit 9
|field t tuple
|  field u tuple
|    field a bool
|    field B bool
|  end
|end
|done
error 111 at 5 path 0 0 1
> define 'e'
|limit 9
|field t tuple
|end
|done
error 115 at 2 path 0
> define 'e'
|limit 9
|field a bool
|end
|done
error 110 at 3
> names
  a
  a-0123456789abcd
names 2
> schema 'a'
  limit 9
  field a bool
`,
		// evolve
		pairs + `
> evolve 'q'
|done
error 200 at 0
> evolve 'p'
|limit 64
|field a int
|field a int
|done
error 112 at 3 path 1
> evolve 'p'
|done
error 110 at 1
> evolve 'p'
|limit 64
|field z bool
|done
ok
> put 'p' (yes) x
ok
> evolve 'p'
|limit 64
|field z int
|done
error 202 at 0
> evolve 'p'
|limit 63
|field z bool
|done
error 202 at 0
> evolve 'p'
|limit 65
|field y bool null-last
|done
ok
> schema 'p'
  limit 65
  field y bool null-last
> key 'p' (null)
x7d
> get 'p' (yes)
x
`,
		// put, get, delete
		pairs + `
> get 'p' (1 x)
none
> put 'p' (1 x) x
ok
> get 'p' (1 x)
x
> put 'p' (1 x) x00ff27
ok
> get 'p' (1 x)
x00ff27
> get 'p' (1 x00)
none
> len 'p'
rows 1
> delete 'p' (1 x00)
no
> delete 'p' (1 x)
yes
> delete 'p' (1 x)
no
> get 'p' (1 x)
none
> len 'p'
rows 0
> put 'q' (1 x) x
error 200 at 0
> get 'q' (1 x)
error 200 at 0
> delete 'q' (1 x)
error 200 at 0
> put 'p' () x
error 122 at 0
> get 'p' (1 x x)
error 122 at 0
> delete 'p' (null)
error 122 at 0
> put 'p' (null x) x
error 121 at 0 path 0
> get 'p' (1 null)
error 121 at 0 path 1
> delete 'p' (1 x112233445566778899)
error 124 at 0 path 1
> put 'p' (1 'x') x
error 120 at 0 path 1
> len 'p'
rows 0
`,
		// the same, with a place within a value, a place within places, and a key that is too long
		`
> define 'n'
|limit 16
|field t tuple
|  field a bool null-last
|  field n name most 20
|end
|done
ok
> put 'n' ((null 'ab\xff')) x
error 125 at 2 path 0 1
> get 'n' ((null "ab"))
error 120 at 0 path 0 1
> delete 'n' ((null))
error 122 at 0 path 0
> put 'n' ((null 'abcdefghij')) x
ok
> put 'n' ((null 'abcdefghijk')) x
error 150 at 0
> key 'n' ((null 'abcdefghijk'))
error 150 at 0
> scan 'n' () no 0
  ((null 'abcdefghij')) x
rows 1
`,
		// import, key, read
		pairs + `
> import 'p' x128101239effff00fe x
error 142 at 5 path 1
> import 'p' x128101239efffe x01
ok
> get 'p' (1 x61)
x01
> import 'p' x128101239efffe x02
ok
> scan 'p' () no 0
  (1 x61) x02
rows 1
> import 'p' x x
error 140 at 0 path 0
> import 'p' x128101 x
error 140 at 3 path 1
> import 'p' x128101239efffe12 x
error 151 at 7
> import 'q' x128101239efffe x
error 200 at 0
> key 'p' (1 x61)
x128101239efffe
> key 'p' (-1 x6100)
x127ffe239eff00fffe
> key 'q' (1 x61)
error 200 at 0
> key 'p' (1)
error 122 at 0
> key 'p' (x 1)
error 120 at 0 path 0
> key 'p' (1 x112233445566778899)
error 124 at 0 path 1
> read 'p' x128101239efffe
(1 x61)
> read 'p' x127ffe239eff00fffe
(-1 x6100)
> read 'q' x128101239efffe
error 200 at 0
> read 'p' x
error 140 at 0 path 0
> read 'p' x128101239efffe00
error 151 at 7
> read 'p' x1281002300
error 143 at 1 path 0
> len 'p'
rows 1
`,
		// read and import, with places within places
		`
> define 't'
|limit 9
|field t tuple
|  field u tuple down
|    field a bool
|  end
|end
|done
ok
> key 't' (((yes)))
x1727eefefe01
> read 't' x1727eefefe01
(((yes)))
> read 't' x1727eefdfe01
error 143 at 3 path 0 0 0
> import 't' x1727eefeff01 x
error 143 at 4 path 0 0
> import 't' x1727eefefe02 x
error 143 at 5 path 0
> read 't' x1727eefefe0102030405
error 150 at 9
`,
		// scan
		pairs + `
> scan 'p' () no 0
rows 0
> put 'p' (2 x) x20
ok
> put 'p' (1 x61) x11
ok
> put 'p' (1 x62) x12
ok
> put 'p' (-99999999999999999999 x) x
ok
> scan 'p' () no 0
  (-99999999999999999999 x) x
  (1 x62) x12
  (1 x61) x11
  (2 x) x20
rows 4
> scan 'p' () yes 0
  (2 x) x20
  (1 x61) x11
  (1 x62) x12
  (-99999999999999999999 x) x
rows 4
> scan 'p' () no 2
  (-99999999999999999999 x) x
  (1 x62) x12
rows 2
> scan 'p' () yes 3
  (2 x) x20
  (1 x61) x11
  (1 x62) x12
rows 3
> scan 'p' () no 4
  (-99999999999999999999 x) x
  (1 x62) x12
  (1 x61) x11
  (2 x) x20
rows 4
> scan 'p' () no 2147483647
  (-99999999999999999999 x) x
  (1 x62) x12
  (1 x61) x11
  (2 x) x20
rows 4
> scan 'p' (1) no 0
  (1 x62) x12
  (1 x61) x11
rows 2
> scan 'p' (1) yes 1
  (1 x61) x11
rows 1
> scan 'p' (-99999999999999999999) no 0
  (-99999999999999999999 x) x
rows 1
> scan 'p' (1 x61) no 0
  (1 x61) x11
rows 1
> scan 'p' (99999999999999999999) no 0
rows 0
> scan 'q' () no 0
error 200 at 0
> scan 'p' (1 x 1) no 0
error 160 at 0
> scan 'p' (1 1) no 0
error 120 at 0 path 1
> scan 'p' (null) no 0
error 121 at 0 path 0
`,
		// bounds: one, several, all four sorts, null, those that leave nothing
		`
> define 'b'
|limit 64
|field a bool
|field b int null-last
|done
ok
> put 'b' (no 1) x
ok
> put 'b' (no 2) x
ok
> put 'b' (no 3) x
ok
> put 'b' (no null) x
ok
> put 'b' (yes 2) x
ok
> bounds 'b' (no) no 0 (yes yes 2)
  (no 2) x
  (no 3) x
  (no null) x
rows 3
> bounds 'b' (no) no 0 (yes no 2)
  (no 3) x
  (no null) x
rows 2
> bounds 'b' (no) no 0 (no yes 2)
  (no 1) x
  (no 2) x
rows 2
> bounds 'b' (no) no 0 (no no 2)
  (no 1) x
rows 1
> bounds 'b' (no) yes 0 (yes yes 2) (no no null)
  (no 3) x
  (no 2) x
rows 2
> bounds 'b' (no) yes 1 (yes yes 2) (no no null)
  (no 3) x
rows 1
> bounds 'b' (no) no 0 (yes no 0) (yes yes 2) (yes no -1) (no yes 3) (no no 3)
  (no 2) x
rows 1
> bounds 'b' (no) no 0 (yes no 3) (no no 3)
rows 0
> bounds 'b' () no 0 (yes yes yes)
  (yes 2) x
rows 1
> bounds 'b' () no 2147483647 (no yes no)
  (no 1) x
  (no 2) x
  (no 3) x
  (no null) x
rows 4
> bounds 'c' () no 0 (yes yes yes)
error 200 at 0
> bounds 'b' (no 1) no 0 (yes yes 1)
error 160 at 0
> bounds 'b' (1) no 0 (yes yes yes)
error 120 at 0 path 0
> bounds 'b' () no 0 (yes yes null)
error 121 at 0 path 0
> bounds 'b' (no) no 0 (yes yes 1) (yes yes (1))
error 120 at 0 path 1
`,
		// starts
		pairs + `
> put 'p' (1 x6100) x
ok
> put 'p' (1 x61) x
ok
> put 'p' (1 x62) x
ok
> put 'p' (2 x61) x
ok
> starts 'p' (1) no 0 x
  (1 x62) x
  (1 x6100) x
  (1 x61) x
rows 3
> starts 'p' (1) no 0 x61
  (1 x6100) x
  (1 x61) x
rows 2
> starts 'p' (1) yes 1 x61
  (1 x61) x
rows 1
> starts 'p' (1) no 2147483647 x6100
  (1 x6100) x
rows 1
> starts 'p' (3) no 0 x61
rows 0
> starts 'q' (1) no 0 x
error 200 at 0
> starts 'p' (1 x) no 0 x
error 160 at 0
> starts 'p' () no 0 x
error 161 at 0 path 0
> starts 'p' (x) no 0 x
error 120 at 0 path 0
`,
		// rekey: Ints are places of items, Tuples of one item values
		pairs + `
> define 'q'
|limit 64
|field x int null-first
|field y int
|done
ok
> put 'p' (1 x01) x31
ok
> put 'p' (2 x02) x32
ok
> rekey 'p' 'q' 0 0
ok
> scan 'q' () no 0
  (1 1) x31
  (2 2) x32
rows 2
> len 'p'
rows 0
> rekey 'p' 'q' 7 (9)
ok
> rekey 'q' 'q' (-1) 1
ok
> scan 'q' () no 0
  (-1 1) x31
  (-1 2) x32
rows 2
> rekey 'q' 'q' 0 (2147483648)
error 201 at 1
> rekey 'q' 'q' 0 2
error 202 at 0
> rekey 'q' 'q' 0 2147483647
error 202 at 0
> rekey 'q' 'q' 1
error 202 at 0
> rekey 'q' 'q'
error 202 at 0
> rekey 'q' 'q' 1 (null)
error 202 at 0
> rekey 'q' 'q' (null) 1
ok
> rekey 'q' 'p' 1 (x05)
ok
> scan 'p' () yes 0
  (2 x05) x32
  (1 x05) x31
rows 2
> put 'q' (3 3) x33
ok
> rekey 'q' 'p' 0 (x05)
ok
> put 'q' (1 1) x34
ok
> rekey 'q' 'p' 0 (x05)
error 201 at 0
> scan 'q' () no 0
  (1 1) x34
rows 1
> rekey 'p' 'r' 0
error 200 at 0
> rekey 'r' 'p' 0
error 200 at 0
`,
		// names, schema, len
		`
> names
names 0
> schema 'z'
error 200 at 0
> len 'z'
error 200 at 0
> define 'z'
|limit 9
|field a bool
|done
ok
> define 'b-1'
|limit 65536
|field i int down null-first from -1 to 300
|field t tuple null-last
| field n name most 7
| field u tuple
| field w text strength 4 shifted back
| end
|end
|field d id
|done
ok
> define 'a'
|limit 9
|field a bool
|done
ok
> names
  a
  b-1
  z
names 3
> schema 'b-1'
  limit 65536
  field i int down null-first from -1 to 300
  field t tuple null-last
    field n name most 7
    field u tuple
      field w text strength 4 shifted back
    end
  end
  field d id
> schema 'B'
error 200 at 0
> len 'a'
rows 0
> put 'a' (yes) x
ok
> put 'a' (no) x
ok
> len 'a'
rows 2
> len ''
error 200 at 0
`,
		// fits
		`
> define 'a'
|limit 9
|field a bool
|done
ok
> define 'b'
|limit 8
|field b bool
|done
ok
> define 'c'
|limit 9
|field c bool null-last
|done
ok
> fits 'a' 'a'
fits
> fits 'a' 'b'
short
> fits 'b' 'a'
fits
> fits 'a' 'c'
fits
> fits 'c' 'a'
witness
> fits 'c' 'b'
witness
> fits 'b' 'c'
fits
> fits 'a' 'd'
error 200 at 0
> fits 'd' 'a'
error 200 at 0
`,
		// save, back: of the space alone, and of its tables
		letters + `
> back
none
> save
kept 169
> put 'w' ("b") x
ok
> save
kept 190
> put 'w' ("a") x31
ok
> define 'p'
|limit 9
|field a bool
|done
ok
> back
ok
> names
  w
names 1
> scan 'w' () no 0
  ("b") x
rows 1
> delete 'w' ("b")
yes
> entries
|0061;[.2000.0020.0002]
|done
ok
> load
ok
> key 'w' ("a")
x16222000000000200000610001
> back
ok
> key 'w' ("a")
x16221000000000200000610001
> get 'w' ("b")
x
> save
kept 190
> load
error 202 at 0
> delete 'w' ("b")
yes
> load
ok
> key 'w' ("a")
x16222000000000200000610001
> back
ok
> back
ok
> len 'w'
rows 1
`,
		// what is kept is what was saved last
		`
> save
kept 29
> define 'p'
|limit 9
|field a bool
|done
ok
> back
ok
> names
names 0
> back
ok
> define 'q'
|limit 9
|field a bool
|done
ok
> save
kept 63
> back
ok
> names
  q
names 1
`,
	}
}

// TestCommands is P22.1: what each line tells, and what it tells when it is refused.
func TestCommands(t *testing.T) {
	for _, talk := range commandTalks() {
		tells(t, scriptOf(talk), toldOf(talk))
	}
}
