"""samebytes: one text for each graph of objects, also with parts without order."""
