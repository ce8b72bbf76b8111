"""The tests of cutorall; run them from the folder above with: python3 -m unittest discover -t . -s tests"""
