package schema

import (
	"strconv"

	"dovetail/api"
)

const (
	between = " "  // words
	further = "  " // what stands ahead of a tuple's fields, more than ahead of itself
)

// printed is the text of a schema that may be, however long.
func printed(s api.Schema) string {
	out := []byte(limitWord + said(strconv.Itoa(s.Limit)) + "\n")
	return string(appendFields(out, s.Fields, ""))
}

// appendFields puts the lines of fields behind what is written already, with something ahead of each.
func appendFields(out []byte, fields []api.Field, ahead string) []byte {
	for _, f := range fields {
		out = append(out, ahead+fieldWord+toldField(f)+"\n"...)
		if f.Kind == api.Tuple {
			out = appendFields(out, f.Fields, ahead+further)
			out = append(out, ahead+endWord+"\n"...)
		}
	}
	return out
}

// toldField is what a field's line says of it, a blank ahead of each word.
func toldField(f api.Field) string {
	k := kinds()[f.Kind]
	nulls := saidIf(f.Nulls == api.NullFirst, nullFirstWord) + saidIf(f.Nulls == api.NullLast, nullLastWord)
	return said(f.Name) + said(k.word) + saidIf(f.Down, downWord) + nulls + k.told(f)
}

// said is a word with a blank ahead.
func said(word string) string { return between + word }

// saidIf is the same if something holds, else nothing.
func saidIf(holds bool, word string) string {
	if !holds {
		return ""
	}
	return said(word)
}
