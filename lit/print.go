package lit

import (
	"dovetail/api"
	"dovetail/nat"
	"dovetail/value"
)

// printer writes a value's text.
type printer struct{ out []byte }

// write puts a text behind what is written already; it gives up as soon as all of it is too long, as a tuple that has another one many times over is far greater than it took to make it.
func (p *printer) write(s string) {
	if len(p.out)+len(s) > api.MaxText {
		panic(lost{why: api.ErrLong})
	}
	p.out = append(p.out, s...)
}

func (p *printer) writeValue(v value.Value) {
	switch x := v.(type) {
	case nil:
		p.write(null)
	case value.Number:
		p.writeNumber(x)
	case value.Raw:
		p.writeRaw(x)
	case value.List:
		p.writeList(x)
	default:
		p.writeTruth(x)
	}
}

// writeTruth writes what is neither a number nor bytes nor a list.
func (p *printer) writeTruth(v value.Value) {
	if v.Part().Yes {
		p.write(yes)
		return
	}
	p.write(no)
}

func (p *printer) writeNumber(v value.Number) {
	s, _ := nat.Print(v.Num()) // what stands in a value is a number that may be
	p.write(s)
}

func (p *printer) writeRaw(v value.Raw) {
	switch v.Kind() {
	case api.Bytes:
		p.write("x")
		p.writeDigits(v.Bytes())
	case api.ID:
		p.write("#")
		p.writeDigits(v.Bytes())
	case api.Name:
		p.writeQuoted(v.Bytes(), nameQuote)
	case api.Text:
		p.writeQuoted(v.Bytes(), textQuote)
	}
}

func (p *printer) writeDigits(s string) {
	for i := range len(s) {
		p.write(digits(s[i]))
	}
}

func (p *printer) writeQuoted(s string, quote byte) {
	around := string([]byte{quote})
	p.write(around)
	for i := range len(s) {
		p.write(spelt(s[i], quote))
	}
	p.write(around)
}

func (p *printer) writeList(v value.List) {
	p.write("(")
	for i := range v.Len() {
		if i > 0 {
			p.write(" ")
		}
		p.writeValue(v.At(i))
	}
	p.write(")")
}
