package space

import (
	"errors"

	"dovetail/api"
)

// refusal is a Fault of which there is nothing to tell but its number.
func refusal(e api.Errno) error { return &api.Fault{Code: e} }

// passed is what a layer below refuses, as the space tells it: what its Fault holds; a mere number as a Fault's.
func passed(err error) error {
	var f *api.Fault
	if errors.As(err, &f) {
		return &api.Fault{Code: f.Code, At: f.At, Path: f.Path, Why: f.Why}
	}
	var e api.Errno
	if errors.As(err, &e) {
		return refusal(e)
	}
	return err
}
